package image_test

import (
	"bytes"
	"fmt"
	"math"
	"math/rand"
	"reflect"
	"slices"
	"strings"
	"testing"

	"rookery/api"
	"rookery/image"
	"rookery/pool"
	"rookery/store"
)

// piece is what belongs together in an image: a number, or the bytes of a name or of a leaf.
type piece struct {
	what string
	b    []byte
}

// pieces is what the document tells of an image, word by word; the numbers of p are such as two bytes may have.
func pieces(p api.Pool) []piece {
	var l []piece
	number := func(what string, n int) { l = append(l, piece{what, []byte{byte(n / 256), byte(n % 256)}}) }
	text := func(b []byte) {
		number("how many bytes", len(b))
		l = append(l, piece{"bytes", b})
	}
	files := func(entries []api.Entry) {
		number("how many files", len(entries))
		for _, f := range entries {
			text([]byte(f.Name))
			number("Root", f.F.Root)
			number("Size", f.F.Size)
		}
	}
	number("how many blocks", len(p.S.Blocks))
	for _, b := range p.S.Blocks {
		number("Refs", b.Refs)
		number("Level", b.Level)
		number("how many Kids", len(b.Kids))
		for _, kid := range b.Kids {
			number("Kid", kid)
		}
		text(b.Bytes)
	}
	number("how many tenants", len(p.Tenants))
	for _, t := range p.Tenants {
		number("Key", t.Key)
		number("Quota", t.Quota)
		number("how many Sets", len(t.Sets))
		for _, x := range t.Sets {
			text([]byte(x.Name))
			files(x.Files)
			number("how many Snaps", len(x.Snaps))
			for _, snap := range x.Snaps {
				text([]byte(snap.Name))
				files(snap.Files)
			}
		}
	}
	return l
}

func joined(l []piece) []byte {
	b := []byte{}
	for _, x := range l {
		b = append(b, x.b...)
	}
	return b
}

func laid(p api.Pool) []byte { return joined(pieces(p)) }

// cursor reads an image by a way of its own, so that Read can be held against it.
type cursor struct {
	b     []byte
	at    int
	short bool
}

func (c *cursor) text(n int) string {
	if c.short || len(c.b)-c.at < n {
		c.short = true
		return ""
	}
	c.at += n
	return string(c.b[c.at-n : c.at])
}

func (c *cursor) number() int {
	s := c.text(2)
	if c.short {
		return 0
	}
	return int(s[0])*256 + int(s[1])
}

func (c *cursor) each(do func()) {
	for n := c.number(); n > 0 && !c.short; n-- {
		do()
	}
}

func (c *cursor) files() []api.Entry {
	var l []api.Entry
	c.each(func() {
		name := c.text(c.number())
		root := c.number()
		l = append(l, api.Entry{Name: name, F: api.File{Root: root, Size: c.number()}})
	})
	return l
}

func (c *cursor) set() api.Set {
	x := api.Set{Name: c.text(c.number())}
	x.Files = c.files()
	c.each(func() {
		name := c.text(c.number())
		x.Snaps = append(x.Snaps, api.Snap{Name: name, Files: c.files()})
	})
	return x
}

// readBySteps is what the document tells of Read.
func readBySteps(b []byte) (api.Pool, api.Errno) {
	if len(b) > 20000 {
		return api.Pool{}, api.ErrMany
	}
	var p api.Pool
	c := &cursor{b: b}
	c.each(func() {
		var x api.Block
		x.Refs = c.number()
		x.Level = c.number()
		c.each(func() { x.Kids = append(x.Kids, c.number()) })
		x.Bytes = []byte(c.text(c.number()))
		p.S.Blocks = append(p.S.Blocks, x)
	})
	c.each(func() {
		var x api.Tenant
		x.Key = c.number()
		x.Quota = c.number()
		c.each(func() { x.Sets = append(x.Sets, c.set()) })
		p.Tenants = append(p.Tenants, x)
	})
	if c.short || c.at < len(b) {
		return api.Pool{}, api.ErrTorn
	}
	if e := pool.Check(p); e != api.OK {
		return api.Pool{}, e
	}
	return p, api.OK
}

func alikeSets(x, y api.Set) bool {
	return x.Name == y.Name && slices.Equal(x.Files, y.Files) && slices.EqualFunc(x.Snaps, y.Snaps, func(a, b api.Snap) bool {
		return a.Name == b.Name && slices.Equal(a.Files, b.Files)
	})
}

// alike: are two pools alike, lists that are nil and such as are empty being so?
func alike(p, q api.Pool) bool {
	return store.Same(p.S, q.S) && slices.EqualFunc(p.Tenants, q.Tenants, func(a, b api.Tenant) bool {
		return a.Key == b.Key && a.Quota == b.Quota && slices.EqualFunc(a.Sets, b.Sets, alikeSets)
	})
}

// home is a right pool, and homeBytes its image, by hand. A free block stands among others; a file is in a snap, too, and
// another snap has none; a set has neither files nor snaps, a tenant no sets; some numbers need the high byte.
func home() api.Pool {
	blocks := []api.Block{
		{Refs: 1, Bytes: []byte{0, 255, 10, 13}},
		{},
		{Refs: 1, Level: 1, Kids: []int{1, 0, 0, 0}},
		{Refs: 1, Level: 2, Kids: []int{0, 3, 0, 0}},
		{Refs: 2, Level: 3, Kids: []int{4, 0, 0, 0}},
		{Refs: 2, Bytes: []byte{9, 8, 7, 6}},
		{Refs: 1, Level: 1, Kids: []int{0, 0, 6, 6}},
		{Refs: 1, Level: 2, Kids: []int{7, 0, 0, 0}},
		{Refs: 1, Level: 3, Kids: []int{0, 0, 0, 8}},
	}
	f := func() []api.Entry { return []api.Entry{{Name: "f", F: api.File{Root: 5, Size: 20}}} }
	g := []api.Entry{{Name: "0"}, {Name: "g", F: api.File{Root: 9, Size: 256}}}
	return api.Pool{
		S: api.Store{Blocks: append(blocks, make([]api.Block, 94)...)},
		Tenants: []api.Tenant{
			{Key: 255, Quota: 4, Sets: []api.Set{{Name: "a", Files: f(), Snaps: []api.Snap{{Name: "s", Files: f()}, {Name: "t"}}}, {Name: "b9"}}},
			{Key: 256, Quota: 9, Sets: []api.Set{{Name: "zzzzzzzz", Files: g}}},
			{Key: 1000},
		},
	}
}

func homeBytes() []byte {
	return slices.Concat(
		[]byte{
			0, 103,
			0, 1, 0, 0, 0, 0, 0, 4, 0, 255, 10, 13,
			0, 0, 0, 0, 0, 0, 0, 0,
			0, 1, 0, 1, 0, 4, 0, 1, 0, 0, 0, 0, 0, 0, 0, 0,
			0, 1, 0, 2, 0, 4, 0, 0, 0, 3, 0, 0, 0, 0, 0, 0,
			0, 2, 0, 3, 0, 4, 0, 4, 0, 0, 0, 0, 0, 0, 0, 0,
			0, 2, 0, 0, 0, 0, 0, 4, 9, 8, 7, 6,
			0, 1, 0, 1, 0, 4, 0, 0, 0, 0, 0, 6, 0, 6, 0, 0,
			0, 1, 0, 2, 0, 4, 0, 7, 0, 0, 0, 0, 0, 0, 0, 0,
			0, 1, 0, 3, 0, 4, 0, 0, 0, 0, 0, 0, 0, 8, 0, 0,
		},
		make([]byte, 94*8),
		[]byte{
			0, 3,
			0, 255, 0, 4, 0, 2,
			0, 1, 'a', 0, 1, 0, 1, 'f', 0, 5, 0, 20,
			0, 2, 0, 1, 's', 0, 1, 0, 1, 'f', 0, 5, 0, 20, 0, 1, 't', 0, 0,
			0, 2, 'b', '9', 0, 0, 0, 0,
			1, 0, 0, 9, 0, 1,
			0, 8, 'z', 'z', 'z', 'z', 'z', 'z', 'z', 'z', 0, 2, 0, 1, '0', 0, 0, 0, 0, 0, 1, 'g', 0, 9, 1, 0, 0, 0,
			3, 232, 0, 0, 0, 0,
		})
}

// shared is a right pool in which one leaf is held that often, behind that many free blocks.
func shared(held, free int) api.Pool {
	p := api.Pool{S: api.Store{Blocks: make([]api.Block, free)}}
	p.S.Blocks = append(p.S.Blocks, api.Block{Refs: held, Bytes: []byte{1, 2, 3, 4}})
	row := slices.Repeat([]int{free + 1}, held)
	for level := 1; level <= api.Top; level++ {
		var above []int
		for kids := range slices.Chunk(row, api.Fan) {
			b := api.Block{Refs: 1, Level: level, Kids: append(slices.Clone(kids), make([]int, api.Fan-len(kids))...)}
			p.S.Blocks = append(p.S.Blocks, b)
			above = append(above, len(p.S.Blocks))
		}
		row = above
	}
	x := api.Set{Name: "x"}
	for i, root := range row {
		x.Files = append(x.Files, api.Entry{Name: fmt.Sprint("f", i), F: api.File{Root: root, Size: api.MaxSize}})
	}
	p.S.Blocks = append(p.S.Blocks, make([]api.Block, api.MaxBlocks-len(p.S.Blocks))...)
	p.Tenants = []api.Tenant{{Key: 77, Quota: api.MaxBlocks - api.Slack, Sets: []api.Set{x}}}
	return p
}

// crowded is a right pool with as many of all that a tenant may have, and names as long as they may be.
func crowded() api.Pool {
	name := func(i int) string { return fmt.Sprintf("name000%d", i) }
	files := func() []api.Entry {
		var l []api.Entry
		for i := range api.MaxFiles {
			l = append(l, api.Entry{Name: name(i), F: api.File{Size: 251 + i}})
		}
		return l
	}
	p := api.Pool{S: api.Store{Blocks: make([]api.Block, api.MaxBlocks)}}
	for i := range api.MaxTenants {
		own := api.Tenant{Key: 254 + i, Quota: 50 + i}
		for j := range api.MaxSets {
			x := api.Set{Name: name(j), Files: files()}
			for k := range api.MaxSnaps {
				x.Snaps = append(x.Snaps, api.Snap{Name: name(k), Files: files()})
			}
			own.Sets = append(own.Sets, x)
		}
		p.Tenants = append(p.Tenants, own)
	}
	return p
}

func empty(n int, tenants ...api.Tenant) api.Pool {
	return api.Pool{S: api.Store{Blocks: make([]api.Block, n)}, Tenants: tenants}
}

type namedPool struct {
	what string
	p    api.Pool
}

// edges are right pools at the edges that the document names.
func edges() []namedPool {
	l := []namedPool{{"home", home()}, {"crowded", crowded()}}
	for _, n := range []int{0, 1, 2, 255, 256, 257, api.MaxBlocks - 1, api.MaxBlocks} {
		l = append(l, namedPool{fmt.Sprint(n, " blocks, no tenants"), empty(n)})
	}
	for _, key := range []int{0, 1, 254, 255, 256, 257, 511, 512, 999, api.MaxKey} {
		l = append(l, namedPool{fmt.Sprint("the key ", key), empty(api.Slack, api.Tenant{Key: key})})
	}
	for _, quota := range []int{0, 1, 255, 256, 257, api.MaxBlocks - api.Slack} {
		l = append(l, namedPool{fmt.Sprint("the quota ", quota), empty(api.MaxBlocks, api.Tenant{Quota: quota})})
	}
	for _, held := range []int{1, 4, 254, 255, 256, 257, 300} {
		l = append(l, namedPool{fmt.Sprint("held ", held, " times"), shared(held, 0)})
		l = append(l, namedPool{fmt.Sprint("held ", held, " times, far behind"), shared(held, 250)})
	}
	for _, size := range []int{0, 1, 255, 256} {
		x := api.Set{Name: "x", Files: []api.Entry{{Name: "f", F: api.File{Size: size}}}}
		l = append(l, namedPool{fmt.Sprint("the size ", size), empty(api.Slack, api.Tenant{Sets: []api.Set{x}})})
	}
	sets := func(l ...api.Set) api.Tenant { return api.Tenant{Sets: l} }
	snaps := func(l ...api.Snap) api.Set { return api.Set{Name: "x", Snaps: l} }
	return append(l,
		namedPool{"tenants without sets", empty(api.Slack, api.Tenant{}, api.Tenant{}, api.Tenant{})},
		namedPool{"a set without files and snaps", empty(api.Slack, sets(api.Set{Name: "x"}))},
		namedPool{"sets without files and snaps", empty(api.Slack, sets(api.Set{Name: "x"}, api.Set{Name: "y"}), sets(api.Set{Name: "x"}))},
		namedPool{"a snap without files", empty(api.Slack, sets(snaps(api.Snap{Name: "s"})))},
		namedPool{"snaps without files", empty(api.Slack, api.Tenant{}, sets(snaps(api.Snap{Name: "s"}, api.Snap{Name: "t"}, api.Snap{Name: "u"})))})
}

func someAsk(r *rand.Rand) api.Ask {
	pick := func(l ...string) string { return l[r.Intn(len(l))] }
	kinds := []int{api.Make, api.Make, api.Write, api.Write, api.Write, api.Write, api.Snapshot, api.Clone, 1 + r.Intn(13)}
	a := api.Ask{
		Kind: kinds[r.Intn(len(kinds))], Set: pick("a", "a", "b", "setname8"), File: pick("b", "c", "file0008", "f"), To: pick("s", "t", "snap0008"),
		At: r.Intn(200), N: r.Intn(257), Bytes: make([]byte, r.Intn(57)),
	}
	r.Read(a.Bytes)
	return a
}

// somePool is what many asks of three tenants leave.
func somePool(t *testing.T, seed int64) api.Pool {
	t.Helper()
	r := rand.New(rand.NewSource(seed))
	quotas := []int{r.Intn(103), r.Intn(103), r.Intn(103)}
	spare := r.Intn(api.MaxBlocks - api.Slack - quotas[0] - quotas[1] - quotas[2] + 1)
	tenants := r.Intn(4)
	keys := []int{r.Intn(1001), r.Intn(1001), r.Intn(1001)}
	p, e := pool.New(api.Slack+quotas[0]+quotas[1]+quotas[2]+spare, keys[:tenants], quotas[:tenants])
	if e != api.OK {
		t.Fatal(e)
	}
	var who []int
	var l []api.Ask
	for range r.Intn(api.MaxScript + 1) {
		who, l = append(who, r.Intn(3)), append(l, someAsk(r))
	}
	p, _, e = pool.Run(p, who, l)
	if e != api.OK {
		t.Fatal(e)
	}
	return p
}

func wantError(t *testing.T, what string, got, want api.Errno, rest ...any) {
	t.Helper()
	if got != want {
		t.Errorf("%s: error %d, want %d", what, got, want)
	}
	if got == api.OK {
		return
	}
	for _, x := range rest {
		if !reflect.ValueOf(x).IsZero() {
			t.Errorf("%s: %v beside an error", what, x)
		}
	}
}

func wantRead(t *testing.T, what string, b []byte, want api.Errno) {
	t.Helper()
	p, e := image.Read(b)
	wantError(t, "Read: "+what, e, want, p)
}

func TestByHand(t *testing.T) {
	b, e := image.Write(home())
	if e != api.OK || !bytes.Equal(b, homeBytes()) {
		t.Errorf("Write: %v, error %d, want %v", b, e, homeBytes())
	}
	p, e := image.Read(homeBytes())
	if e != api.OK || !alike(p, home()) {
		t.Errorf("Read: %v, error %d, want %v", p, e, home())
	}
	b, e = image.Write(api.Pool{})
	if e != api.OK || !bytes.Equal(b, []byte{0, 0, 0, 0}) {
		t.Errorf("Write of nothing: %v, error %d", b, e)
	}
	p, e = image.Read([]byte{0, 0, 0, 0})
	if e != api.OK || !alike(p, api.Pool{}) {
		t.Errorf("Read of nothing: %v, error %d", p, e)
	}
	b, e = image.Write(shared(256, 250))
	leaf := []byte{1, 0, 0, 0, 0, 0, 0, 4, 1, 2, 3, 4}
	above := []byte{0, 1, 0, 1, 0, 4, 0, 251, 0, 251, 0, 251, 0, 251, 0, 0}
	two := []byte{0, 1, 0, 2, 0, 4, 0, 252, 0, 253, 0, 254, 0, 255, 0, 0, 0, 1, 0, 2, 0, 4, 1, 0, 1, 1, 1, 2, 1, 3, 0, 0}
	want := slices.Concat([]byte{1, 144}, make([]byte, 250*8), leaf, bytes.Repeat(above, 64), two)
	if e != api.OK || !bytes.HasPrefix(b, want) {
		t.Errorf("Write of great numbers: %v, error %d, want at first %v", b, e, want)
	}
}

// wantThereAndBack: Write of p is what the document tells, Read of it is p, and Write of that the same bytes.
func wantThereAndBack(t *testing.T, what string, p api.Pool) {
	t.Helper()
	if e := pool.Check(p); e != api.OK {
		t.Fatalf("%s: error %d of the pool", what, e)
	}
	b, e := image.Write(p)
	if e != api.OK || !bytes.Equal(b, laid(p)) {
		t.Fatalf("%s: Write: %v, error %d, want %v", what, b, e, laid(p))
	}
	if len(b) > api.MaxBytes {
		t.Fatalf("%s: %d bytes", what, len(b))
	}
	q, e := image.Read(b)
	if e != api.OK || !alike(p, q) {
		t.Fatalf("%s: Read of Write: %v, error %d, want %v", what, q, e, p)
	}
	again, e := image.Write(q)
	if e != api.OK || !bytes.Equal(b, again) {
		t.Fatalf("%s: Write of Read: %v, error %d, want %v", what, again, e, b)
	}
	if !image.Same(p, q) || !image.Same(q, p) || !image.Same(p, p) {
		t.Fatalf("%s: Same: %v, %v", what, p, q)
	}
}

func TestThereAndBack(t *testing.T) {
	for _, x := range edges() {
		wantThereAndBack(t, x.what, x.p)
	}
	blocks, snaps, above := 0, 0, 0
	for seed := range int64(300) {
		p := somePool(t, seed)
		wantThereAndBack(t, fmt.Sprint("seed ", seed), p)
		n, _ := store.Used(p.S)
		blocks = max(blocks, n)
		for _, b := range p.S.Blocks {
			above = max(above, slices.Max(append([]int{0}, b.Kids...)))
		}
		for _, own := range p.Tenants {
			for _, x := range own.Sets {
				snaps += len(x.Snaps)
			}
		}
	}
	if blocks < 100 || snaps < 100 || above < 100 {
		t.Errorf("the pools are small: %d blocks, %d snaps, %d kids", blocks, snaps, above)
	}
}

// Cut at every place, and so at those where a number, a name or a list ends, and one ahead of them.
func TestEndsTooEarly(t *testing.T) {
	bare := api.Set{Name: "x", Snaps: []api.Snap{{Name: "s"}}}
	for _, p := range []api.Pool{home(), crowded(), shared(257, 250), empty(api.Slack, api.Tenant{Sets: []api.Set{bare}}), empty(1), {}} {
		b := laid(p)
		for n := range b {
			wantRead(t, fmt.Sprint(n, " bytes of ", len(b)), b[:n:n], api.ErrTorn)
			// What stands in the spare room is no part of it.
			wantRead(t, fmt.Sprint(n, " bytes of ", len(b), ", with room"), b[:n], api.ErrTorn)
		}
	}
	for _, b := range [][]byte{nil, {}, {0}, {0, 0}, {0, 0, 0}, {255}, {255, 255}, {0, 1}, {0, 0, 0, 1}, {0, 0, 255, 255}} {
		wantRead(t, fmt.Sprint(b), b, api.ErrTorn)
	}
}

func TestGoesOn(t *testing.T) {
	for _, x := range edges() {
		b := laid(x.p)
		for _, more := range [][]byte{{0}, {1}, {255}, {0, 0}, {0, 0, 0, 0}, b, make([]byte, api.MaxBytes-len(b))} {
			if len(b)+len(more) <= api.MaxBytes {
				wantRead(t, fmt.Sprint(x.what, ", ", len(more), " more"), slices.Concat(b, more), api.ErrTorn)
			}
		}
	}
}

// Each number of an image turned to 65535: of things that don't follow it is torn; else the pool is wrong.
func TestGreatNumbers(t *testing.T) {
	wants := map[string]api.Errno{
		"Refs": api.ErrHeld, "Level": api.ErrRange, "Kid": api.ErrWho, "Key": api.ErrRange, "Quota": api.ErrRange, "Root": api.ErrWho, "Size": api.ErrRange,
	}
	seen := map[string]int{}
	l := pieces(home())
	for i, x := range l {
		if x.what == "bytes" {
			continue
		}
		want, there := wants[x.what]
		if !there {
			want = api.ErrTorn
		}
		free := len(l) > i+3 && bytes.Equal(joined(l[i:i+4]), make([]byte, 8)) && x.what == "Refs"
		level := x.what == "Level" && bytes.Equal(l[i-1].b, []byte{0, 0})
		if free || level {
			// A free block that isn't zero, or a leaf without bytes.
			want = api.ErrForm
		}
		for _, n := range []byte{255, 254} {
			turned := slices.Clone(l)
			turned[i] = piece{x.what, []byte{255, n}}
			wantRead(t, fmt.Sprint(x.what, " at ", i), joined(turned), want)
			wantRead(t, fmt.Sprint(x.what, " at ", i, ", one byte less"), joined(turned)[:len(joined(l))-1], api.ErrTorn)
		}
		seen[x.what]++
	}
	if len(seen) != 14 {
		t.Errorf("not all numbers were turned: %v", seen)
	}
}

// wide is an image of just n bytes, in form, whose only block is wrong.
func wide(n int) []byte {
	return laid(api.Pool{S: api.Store{Blocks: []api.Block{{Refs: 1, Bytes: make([]byte, n-12)}}}})
}

func TestMostBytes(t *testing.T) {
	for _, n := range []int{api.MaxBytes - 1, api.MaxBytes} {
		wantRead(t, fmt.Sprint(n, " bytes of a wrong pool"), wide(n), api.ErrForm)
		wantRead(t, fmt.Sprint(n, " noughts"), make([]byte, n), api.ErrTorn)
		wantRead(t, fmt.Sprint(n, " times 255"), bytes.Repeat([]byte{255}, n), api.ErrTorn)
	}
	for _, n := range []int{api.MaxBytes + 1, api.MaxBytes + 2, 65536, 1000000} {
		wantRead(t, fmt.Sprint(n, " noughts"), make([]byte, n), api.ErrMany)
		wantRead(t, fmt.Sprint(n, " times 255"), bytes.Repeat([]byte{255}, n), api.ErrMany)
		wantRead(t, fmt.Sprint(n, " bytes, a right pool at first"), append(homeBytes(), make([]byte, n-len(homeBytes()))...), api.ErrMany)
	}
	wantRead(t, "one byte more of a wrong pool", wide(api.MaxBytes+1), api.ErrMany)
	// The spare room doesn't count.
	p, e := image.Read(append(make([]byte, 0, 2*api.MaxBytes), homeBytes()...))
	if e != api.OK || !alike(p, home()) {
		t.Errorf("with much room: %v, error %d", p, e)
	}
}

// fault is one thing that is wrong with a pool, and the error that tells of it.
type fault struct {
	what string
	want api.Errno
	turn func(p *api.Pool)
}

func manyFiles() []api.Entry {
	var l []api.Entry
	for i := range api.MaxFiles + 1 {
		l = append(l, api.Entry{Name: fmt.Sprint("f", i)})
	}
	return l
}

// faultsOfHome are what may be wrong with the first set of home, in the order of chapter 5.
func faultsOfHome() []fault {
	files := func(what string, want api.Errno, l ...api.Entry) fault {
		return fault{what, want, func(p *api.Pool) { p.Tenants[0].Sets[0].Files = l }}
	}
	snaps := func(what string, want api.Errno, l ...api.Snap) fault {
		return fault{what, want, func(p *api.Pool) { p.Tenants[0].Sets[0].Snaps = l }}
	}
	of := func(root, size int) api.Entry { return api.Entry{Name: "a", F: api.File{Root: root, Size: size}} }
	return []fault{
		{"no name of a set", api.ErrText, func(p *api.Pool) { p.Tenants[0].Sets[0].Name = "" }},
		{"a long name of a set", api.ErrText, func(p *api.Pool) { p.Tenants[0].Sets[0].Name = strings.Repeat("a", 300) }},
		{"other bytes in a name", api.ErrText, func(p *api.Pool) { p.Tenants[0].Sets[0].Name = "\xff\x00é" }},
		files("too many files", api.ErrMany, manyFiles()...),
		files("no name of a file", api.ErrText, api.Entry{Name: "A"}),
		files("the same name of files", api.ErrTwice, api.Entry{Name: "a"}, api.Entry{Name: "a"}),
		files("a great size", api.ErrRange, of(0, api.MaxSize+1)),
		files("no such root", api.ErrWho, of(104, 4)),
		files("a free root", api.ErrWho, of(2, 4)),
		files("a leaf as root", api.ErrForm, of(1, 4)),
		files("bytes behind the size", api.ErrForm, of(5, 19)),
		snaps("too many snaps", api.ErrMany, make([]api.Snap, api.MaxSnaps+1)...),
		snaps("no name of a snap", api.ErrText, api.Snap{}),
		snaps("too many files of a snap", api.ErrMany, api.Snap{Name: "a", Files: manyFiles()}),
		snaps("no such root in a snap", api.ErrWho, api.Snap{Name: "a", Files: []api.Entry{of(400, 4)}}),
		snaps("the same name of snaps", api.ErrTwice, api.Snap{Name: "a"}, api.Snap{Name: "a"}),
	}
}

// faults are what may be wrong with home and can stand in an image, in the order in which chapter 6's Check tells it.
func faults() []fault {
	lay := func(at int, b api.Block) func(p *api.Pool) {
		return func(p *api.Pool) { p.S.Blocks[at] = b }
	}
	quota := func(n int) func(p *api.Pool) {
		return func(p *api.Pool) { p.Tenants[0].Quota = n }
	}
	l := []fault{
		{"too many blocks", api.ErrMany, func(p *api.Pool) { p.S.Blocks = append(p.S.Blocks, make([]api.Block, 298)...) }},
		{"a free block that isn't zero", api.ErrForm, lay(40, api.Block{Level: 1})},
		{"a great Level", api.ErrRange, lay(41, api.Block{Refs: 1, Level: api.Top + 1})},
		{"a short leaf", api.ErrForm, lay(42, api.Block{Refs: 1, Bytes: []byte{1}})},
		{"no such kid", api.ErrWho, lay(43, api.Block{Refs: 1, Level: 1, Kids: []int{999, 0, 0, 0}})},
		{"no kid", api.ErrForm, lay(44, api.Block{Refs: 1, Level: 1, Kids: make([]int, 4)})},
		{"many kids", api.ErrForm, lay(45, api.Block{Refs: 1, Level: 1, Kids: make([]int, 300)})},
		{"held too rarely", api.ErrHeld, lay(46, api.Block{Refs: 1, Level: 1, Kids: []int{1, 1, 1, 1}})},
		{"too many tenants", api.ErrMany, func(p *api.Pool) { p.Tenants = append(p.Tenants, api.Tenant{}) }},
		{"a great key", api.ErrRange, func(p *api.Pool) { p.Tenants[0].Key = api.MaxKey + 1 }},
		{"a great quota", api.ErrRange, quota(api.MaxBlocks + 1)},
		{"too many sets", api.ErrMany, func(p *api.Pool) {
			p.Tenants[0].Sets = append(p.Tenants[0].Sets, make([]api.Set, api.MaxSets)...)
		}},
	}
	l = append(l, faultsOfHome()...)
	return append(l,
		fault{"the same name of sets", api.ErrTwice, func(p *api.Pool) { p.Tenants[0].Sets[1].Name = p.Tenants[0].Sets[0].Name }},
		fault{"no room for the quota", api.ErrFull, quota(14)},
		fault{"more blocks than the quota", api.ErrFull, quota(3)},
		fault{"another one's root", api.ErrHeld, func(p *api.Pool) {
			p.Tenants[1].Sets[0].Files = []api.Entry{{Name: "f", F: api.File{Root: 5, Size: api.MaxSize}}}
		}},
		fault{"a great key of the last one", api.ErrRange, func(p *api.Pool) { p.Tenants[2].Key = 65535 }},
		fault{"held once more", api.ErrHeld, func(p *api.Pool) { p.S.Blocks[4].Refs = 3 }},
		fault{"held much more", api.ErrHeld, func(p *api.Pool) { p.S.Blocks[4].Refs = 65535 }},
		fault{"held by nobody", api.ErrHeld, lay(47, api.Block{Refs: 1, Bytes: make([]byte, 4)})})
}

// wantWrong: each call says of the pool p, or of its bytes, what the first error is.
func wantWrong(t *testing.T, what string, p api.Pool, want api.Errno) {
	t.Helper()
	if e := pool.Check(p); e != want {
		t.Fatalf("%s: Check says error %d, want %d", what, e, want)
	}
	b, e := image.Write(p)
	wantError(t, "Write: "+what, e, want, b)
	if image.Same(p, p) || image.Same(p, home()) || image.Same(home(), p) {
		t.Errorf("%s: it is the same as something", what)
	}
}

// Each fault alone, and each with each later one beside it; and with bytes that are torn, or too many, too.
func TestFaultsInTheirOrder(t *testing.T) {
	l := faults()
	for i, first := range l {
		for j := i; j < len(l); j++ {
			p := home()
			// The later one goes first, so that what the first one turns stays so.
			l[j].turn(&p)
			first.turn(&p)
			what := first.what + "; " + l[j].what
			wantWrong(t, what, p, first.want)
			b := laid(p)
			wantRead(t, what, b, first.want)
			wantRead(t, what+"; one byte less", b[:len(b)-1], api.ErrTorn)
			wantRead(t, what+"; one byte more", append(b[:len(b):len(b)], 0), api.ErrTorn)
			wantRead(t, what+"; too many bytes", append(b[:len(b):len(b)], make([]byte, api.MaxBytes+1-len(b))...), api.ErrMany)
		}
	}
}

// What two bytes can't tell is wrong, even where its two lowest ones are those of a right pool.
func TestWriteOfOtherNumbers(t *testing.T) {
	places := []struct {
		what         string
		place        func(p *api.Pool) *int
		below, above api.Errno
	}{
		{"Refs", func(p *api.Pool) *int { return &p.S.Blocks[0].Refs }, api.ErrRange, api.ErrHeld},
		{"Level", func(p *api.Pool) *int { return &p.S.Blocks[3].Level }, api.ErrRange, api.ErrRange},
		{"Kid", func(p *api.Pool) *int { return &p.S.Blocks[2].Kids[0] }, api.ErrWho, api.ErrWho},
		{"Key", func(p *api.Pool) *int { return &p.Tenants[0].Key }, api.ErrRange, api.ErrRange},
		{"Quota", func(p *api.Pool) *int { return &p.Tenants[1].Quota }, api.ErrRange, api.ErrRange},
		{"Root", func(p *api.Pool) *int { return &p.Tenants[0].Sets[0].Files[0].F.Root }, api.ErrWho, api.ErrWho},
		{"Size", func(p *api.Pool) *int { return &p.Tenants[0].Sets[0].Snaps[0].Files[0].F.Size }, api.ErrRange, api.ErrRange},
	}
	for _, c := range places {
		for _, more := range []int{-65536, -(1 << 32), 65536, 2 * 65536, math.MinInt, math.MaxInt / 2} {
			p := home()
			*c.place(&p) += more
			want := c.below
			if more > 0 {
				want = c.above
			}
			if c.what == "Refs" && more == math.MaxInt/2 {
				want = api.ErrRange
			}
			wantWrong(t, fmt.Sprint(c.what, " and ", more), p, want)
		}
	}
	p := home()
	p.S.Blocks[0].Refs = api.MaxRefs
	wantWrong(t, "held most often", p, api.ErrHeld)
}

// apart are turns of home that leave it right, and differ from it in one place alone (a root, in where it is held, too).
func apart() []fault {
	set := func(turn func(x *api.Set)) func(p *api.Pool) {
		return func(p *api.Pool) { turn(&p.Tenants[0].Sets[0]) }
	}
	return []fault{
		{"one more block", api.OK, func(p *api.Pool) { p.S.Blocks = append(p.S.Blocks, api.Block{}) }},
		{"a byte of a leaf", api.OK, func(p *api.Pool) { p.S.Blocks[0].Bytes[3]++ }},
		{"the first byte of a leaf", api.OK, func(p *api.Pool) { p.S.Blocks[5].Bytes[0] = 255 }},
		{"kids in another order", api.OK, func(p *api.Pool) { p.S.Blocks[6].Kids = []int{0, 6, 0, 6} }},
		{"a key", api.OK, func(p *api.Pool) { p.Tenants[0].Key = 254 }},
		{"the high byte of a key", api.OK, func(p *api.Pool) { p.Tenants[1].Key = 512 }},
		{"the last key", api.OK, func(p *api.Pool) { p.Tenants[2].Key-- }},
		{"a quota", api.OK, func(p *api.Pool) { p.Tenants[1].Quota-- }},
		{"a name of a set", api.OK, func(p *api.Pool) { p.Tenants[0].Sets[1].Name = "b8" }},
		{"a longer name of a set", api.OK, func(p *api.Pool) { p.Tenants[0].Sets[1].Name = "b90" }},
		{"a name of a file", api.OK, set(func(x *api.Set) { x.Files[0].Name = "e" })},
		{"a size", api.OK, set(func(x *api.Set) { x.Files[0].F.Size = 21 })},
		{"the high byte of a size", api.OK, set(func(x *api.Set) { x.Files[0].F.Size = 256 })},
		{"a root", api.OK, set(func(x *api.Set) { x.Files[0].F.Root = 0 })},
		{"a name of a snap", api.OK, set(func(x *api.Set) { x.Snaps[0].Name = "r" })},
		{"a name of a file of a snap", api.OK, set(func(x *api.Set) { x.Snaps[0].Files[0].Name = "e" })},
		{"a size in a snap", api.OK, set(func(x *api.Set) { x.Snaps[0].Files[0].F.Size = 21 })},
		{"a file more", api.OK, set(func(x *api.Set) { x.Files = append(x.Files, api.Entry{Name: "g"}) })},
		{"a file more in a snap", api.OK, set(func(x *api.Set) { x.Snaps[1].Files = []api.Entry{{Name: "g"}} })},
		{"a snap less", api.OK, set(func(x *api.Set) { x.Snaps = x.Snaps[:1] })},
		{"a set less", api.OK, func(p *api.Pool) { p.Tenants[0].Sets = p.Tenants[0].Sets[:1] }},
		{"a set more", api.OK, func(p *api.Pool) { p.Tenants[2].Sets = []api.Set{{Name: "a"}} }},
		{"a tenant less", api.OK, func(p *api.Pool) { p.Tenants = p.Tenants[:2] }},
	}
}

func TestSame(t *testing.T) {
	if !image.Same(home(), home()) || !image.Same(api.Pool{}, api.Pool{}) {
		t.Errorf("a pool isn't the same as itself")
	}
	l := apart()
	turned := make([]api.Pool, len(l))
	for i, x := range l {
		turned[i] = home()
		x.turn(&turned[i])
		if x.what == "a root" {
			turned[i].S.Blocks[4].Refs--
		}
		if e := pool.Check(turned[i]); e != api.OK {
			t.Fatalf("%s: error %d of the pool", x.what, e)
		}
		if image.Same(turned[i], home()) || image.Same(home(), turned[i]) {
			t.Errorf("%s: it is the same as home", x.what)
		}
		if !image.Same(turned[i], turned[i]) {
			t.Errorf("%s: it isn't the same as itself", x.what)
		}
		for j := range i {
			if image.Same(turned[i], turned[j]) {
				t.Errorf("%s: it is the same as %s", x.what, l[j].what)
			}
		}
	}
	for _, p := range []api.Pool{empty(401), empty(0, api.Tenant{}), {Tenants: make([]api.Tenant, 4)}} {
		if image.Same(p, p) || image.Same(p, api.Pool{}) || image.Same(api.Pool{}, p) {
			t.Errorf("a wrong pool is the same as something: %v", p)
		}
	}
}

// emptied is p with lists that are empty where there are none.
func emptied(p api.Pool) api.Pool {
	q := api.Pool{S: api.Store{Blocks: append([]api.Block{}, p.S.Blocks...)}, Tenants: append([]api.Tenant{}, p.Tenants...)}
	for i, b := range q.S.Blocks {
		q.S.Blocks[i].Kids, q.S.Blocks[i].Bytes = append([]int{}, b.Kids...), append([]byte{}, b.Bytes...)
	}
	for i, own := range q.Tenants {
		q.Tenants[i].Sets = append([]api.Set{}, own.Sets...)
		for j, x := range q.Tenants[i].Sets {
			snaps := append([]api.Snap{}, x.Snaps...)
			for k, snap := range snaps {
				snaps[k].Files = append([]api.Entry{}, snap.Files...)
			}
			q.Tenants[i].Sets[j] = api.Set{Name: x.Name, Files: append([]api.Entry{}, x.Files...), Snaps: snaps}
		}
	}
	return q
}

func TestEmptyLists(t *testing.T) {
	for _, x := range edges() {
		q := emptied(x.p)
		if !image.Same(x.p, q) || !image.Same(q, x.p) {
			t.Errorf("%s: empty lists aren't the same as none", x.what)
		}
		b, e := image.Write(q)
		if e != api.OK || !bytes.Equal(b, laid(x.p)) {
			t.Errorf("%s: Write with empty lists: %v, error %d", x.what, b, e)
		}
	}
}

// mutated is b with some bytes turned, taken out, or laid between.
func mutated(r *rand.Rand, b []byte) []byte {
	b = slices.Clone(b)
	for range 1 + r.Intn(3) {
		// Half of them behind the blocks, of which most are free.
		i := r.Intn(len(b))
		if r.Intn(2) == 0 {
			i = len(b) - 1 - r.Intn(min(len(b), 120))
		}
		switch r.Intn(9) {
		case 0:
			b = slices.Delete(b, i, min(i+1+r.Intn(9), len(b)))
		case 1:
			b = slices.Insert(b, i, make([]byte, 1+r.Intn(9))...)
		case 2:
			b[i] = byte(r.Intn(256))
		case 3:
			b[i] = []byte{0, 1, 4, 'a', 'z', 255}[r.Intn(6)]
		default:
			b[i] += byte(1 + 254*r.Intn(2))
		}
		if len(b) == 0 {
			return b
		}
	}
	return b
}

// Bytes that are wrong in all kinds of ways: Read says what the document says; what it takes, Write gives back.
func TestMutatedBytes(t *testing.T) {
	from := [][]byte{homeBytes(), homeBytes(), laid(shared(256, 250)), laid(empty(api.Slack, api.Tenant{Sets: []api.Set{{Name: "ab"}}}))}
	for seed := range int64(6) {
		from = append(from, laid(somePool(t, seed)))
	}
	told := map[api.Errno]int{}
	for seed := range int64(20000) {
		r := rand.New(rand.NewSource(seed))
		b := mutated(r, from[r.Intn(len(from))])
		want, wrong := readBySteps(b)
		p, e := image.Read(b)
		wantError(t, fmt.Sprint("seed ", seed), e, wrong, p)
		if e == api.OK {
			again, e := image.Write(p)
			if e != api.OK || !bytes.Equal(b, again) || !alike(p, want) {
				t.Fatalf("seed %d: Write of Read: %v, error %d, want %v", seed, again, e, b)
			}
		}
		told[e]++
	}
	for _, e := range []api.Errno{api.OK, api.ErrText, api.ErrRange, api.ErrForm, api.ErrWho, api.ErrTwice, api.ErrHeld, api.ErrFull, api.ErrTorn} {
		if told[e] < 5 {
			t.Errorf("error %d was told %d times only", e, told[e])
		}
	}
}

// Bytes of no image at all.
func TestAnyBytes(t *testing.T) {
	for seed := range int64(3000) {
		r := rand.New(rand.NewSource(seed))
		b := make([]byte, r.Intn(300))
		for i := range b {
			if r.Intn(3) == 0 {
				b[i] = byte(r.Intn(6))
			}
		}
		want, wrong := readBySteps(b)
		p, e := image.Read(b)
		wantError(t, fmt.Sprint("seed ", seed), e, wrong, p)
		if !alike(p, want) {
			t.Errorf("seed %d: %v, want %v", seed, p, want)
		}
	}
}

// lists are all lists of a pool, whole: with their spare room.
func lists(p api.Pool) []reflect.Value {
	l := []reflect.Value{reflect.ValueOf(p.S.Blocks), reflect.ValueOf(p.Tenants)}
	for _, b := range p.S.Blocks {
		l = append(l, reflect.ValueOf(b.Kids), reflect.ValueOf(b.Bytes))
	}
	for _, t := range p.Tenants {
		l = append(l, reflect.ValueOf(t.Sets))
		for _, x := range t.Sets {
			l = append(l, reflect.ValueOf(x.Files), reflect.ValueOf(x.Snaps))
			for _, snap := range x.Snaps {
				l = append(l, reflect.ValueOf(snap.Files))
			}
		}
	}
	return l
}

func size(v reflect.Value) uintptr { return uintptr(v.Cap()) * v.Type().Elem().Size() }

// wantApart: no two of these lists share memory.
func wantApart(t *testing.T, what string, l []reflect.Value) {
	t.Helper()
	l = slices.DeleteFunc(l, func(v reflect.Value) bool { return size(v) == 0 })
	slices.SortFunc(l, func(x, y reflect.Value) int { return int(x.Pointer()) - int(y.Pointer()) })
	for k := 1; k < len(l); k++ {
		if l[k-1].Pointer()+size(l[k-1]) > l[k].Pointer() {
			t.Fatalf("%s: lists share memory: %v, %v", what, l[k-1], l[k])
		}
	}
}

// roomy is l with spare room behind it, filled with x.
func roomy[T any](l []T, x T) []T {
	out := append(make([]T, 0, len(l)+9), l...)
	for i := len(l); i < cap(out); i++ {
		out[:cap(out)][i] = x
	}
	return out
}

// roomyPool is p, all its lists with spare room behind them.
func roomyPool(p api.Pool) api.Pool {
	spare := api.Entry{Name: "spare", F: api.File{Size: 1}}
	blocks := roomy(p.S.Blocks, api.Block{Refs: 1})
	for i, b := range blocks {
		blocks[i].Kids, blocks[i].Bytes = roomy(b.Kids, 3), roomy(b.Bytes, 3)
	}
	tenants := roomy(p.Tenants, api.Tenant{Key: 9})
	for i := range tenants {
		tenants[i].Sets = roomy(tenants[i].Sets, api.Set{Name: "spare"})
		for j, x := range tenants[i].Sets {
			snaps := roomy(x.Snaps, api.Snap{Name: "spare"})
			for k := range snaps {
				snaps[k].Files = roomy(snaps[k].Files, spare)
			}
			tenants[i].Sets[j] = api.Set{Name: x.Name, Files: roomy(x.Files, spare), Snaps: snaps}
		}
	}
	return api.Pool{S: api.Store{Blocks: blocks}, Tenants: tenants}
}

// whole tells all of a pool, with the spare room of its lists.
func whole(p api.Pool) string {
	told := fmt.Sprint(len(p.S.Blocks), len(p.Tenants))
	for _, v := range lists(p) {
		told += fmt.Sprint(v.Len(), v.Slice(0, v.Cap()))
	}
	return told
}

func TestPoolsAreOnlyRead(t *testing.T) {
	pools := append(edges(), namedPool{"wrong", empty(7, api.Tenant{Key: -1})})
	for _, x := range faults() {
		p := home()
		x.turn(&p)
		pools = append(pools, namedPool{x.what, p})
	}
	for _, x := range pools {
		p, q := roomyPool(x.p), roomyPool(x.p)
		ahead := whole(p)
		b, _ := image.Write(p)
		again, _ := image.Write(p)
		if !bytes.Equal(b, again) {
			t.Errorf("%s: %v, and then %v", x.what, b, again)
		}
		image.Same(p, q)
		image.Same(p, p)
		if whole(p) != ahead || whole(q) != ahead {
			t.Errorf("%s: what was handed in was changed: %s, %s, was %s", x.what, whole(p), whole(q), ahead)
		}
		wantApart(t, x.what, append(lists(p), reflect.ValueOf(b), reflect.ValueOf(again)))
	}
}

func TestBytesAreOnlyRead(t *testing.T) {
	images := [][]byte{nil, {0}, homeBytes()[:800], append(homeBytes(), 7)}
	for _, x := range edges() {
		images = append(images, laid(x.p))
	}
	for _, x := range faults() {
		p := home()
		x.turn(&p)
		images = append(images, laid(p))
	}
	for i, x := range images {
		b := roomy(x, 3)
		ahead := slices.Clone(b[:cap(b)])
		p, e := image.Read(b)
		q, f := image.Read(b)
		if !bytes.Equal(b[:cap(b)], ahead) {
			t.Fatalf("image %d: what was handed in was changed: %v, was %v", i, b[:cap(b)], ahead)
		}
		wantApart(t, fmt.Sprint("image ", i), slices.Concat(lists(p), lists(q), []reflect.Value{reflect.ValueOf(b)}))
		// Nothing of the answer, its names neither, hangs on what becomes of the bytes.
		told := whole(p)
		clear(b[:cap(b)])
		if e != f || whole(p) != told || whole(q) != told {
			t.Fatalf("image %d: %v, error %d, then %v, error %d, was %s", i, p, e, q, f, told)
		}
	}
}
