package disk_test

import (
	"bytes"
	"encoding/binary"
	"fmt"
	"hash/adler32"
	"math"
	"math/rand"
	"reflect"
	"slices"
	"testing"

	"rookery/api"
	"rookery/disk"
	"rookery/image"
	"rookery/pool"
)

// mostOfSlot is how many bytes a slot may have.
const mostOfSlot = 20009

// lastNumber is the greatest number that is committed.
const lastNumber = 2147483647

// summed is a slot of that number, with a right sum over what it says of the length, and over the image, right or not.
func summed(number uint32, length int, laid []byte) []byte {
	head := binary.BigEndian.AppendUint32(nil, number)
	head = append(head, byte(length/65536), byte(length/256%256), byte(length%256))
	// The two halves of this checksum are just what the document calls y and x.
	halves := adler32.Checksum(slices.Concat(head, laid))
	sum := binary.BigEndian.AppendUint16(nil, uint16(halves>>16^halves&65535))
	return slices.Concat(head, sum, laid)
}

func slotOf(number uint32, laid []byte) []byte { return summed(number, len(laid), laid) }

func imageOf(t *testing.T, p api.Pool) []byte {
	t.Helper()
	b, e := image.Write(p)
	if e != api.OK {
		t.Fatalf("error %d of a pool's image", e)
	}
	return b
}

// poolSlot is a whole slot of p.
func poolSlot(t *testing.T, number uint32, p api.Pool) []byte {
	t.Helper()
	return slotOf(number, imageOf(t, p))
}

// wholeBySteps is what the document tells of a slot: does it begin as one does, and which pool has it?
func wholeBySteps(slot []byte) (api.Pool, uint32, bool) {
	for length := range len(slot) - 8 {
		begin := slot[:9+length]
		number := binary.BigEndian.Uint32(begin)
		if int(begin[4])*65536+int(begin[5])*256+int(begin[6]) != length || !bytes.Equal(begin, slotOf(number, begin[9:])) {
			continue
		}
		p, e := image.Read(begin[9:])
		return p, number, e == api.OK
	}
	return api.Pool{}, 0, false
}

// recoverBySteps is what the document tells of Recover; and which slot it is: 'A', 'B', or 0.
func recoverBySteps(d api.Disk) (api.Pool, uint32, byte, api.Errno) {
	if len(d.A) > mostOfSlot || len(d.B) > mostOfSlot {
		return api.Pool{}, 0, 0, api.ErrMany
	}
	p, n, wholeA := wholeBySteps(d.A)
	q, m, wholeB := wholeBySteps(d.B)
	if wholeB && (!wholeA || m > n) {
		return q, m, 'B', api.OK
	}
	if wholeA {
		return p, n, 'A', api.OK
	}
	return api.Pool{}, 0, 0, api.ErrTorn
}

// commitBySteps is what the document tells of Commit; and the slot that is written.
func commitBySteps(d api.Disk, p api.Pool) (api.Disk, []byte, api.Errno) {
	_, n, where, e := recoverBySteps(d)
	if e == api.ErrMany {
		return api.Disk{}, nil, e
	}
	laid, wrong := image.Write(p)
	if wrong != api.OK {
		return api.Disk{}, nil, wrong
	}
	if e == api.OK && n >= lastNumber {
		return api.Disk{}, nil, api.ErrFull
	}
	slot := slotOf(n+1, laid)
	if where == 'A' {
		return api.Disk{A: d.A, B: slot}, slot, api.OK
	}
	return api.Disk{A: slot, B: d.B}, slot, api.OK
}

// tornBySteps is what the document tells of Torn.
func tornBySteps(d api.Disk, p api.Pool, n int) (api.Disk, api.Errno) {
	c, slot, e := commitBySteps(d, p)
	if e != api.OK {
		return api.Disk{}, e
	}
	if n < 0 || n > len(slot) {
		return api.Disk{}, api.ErrRange
	}
	if _, _, where, _ := recoverBySteps(d); where == 'A' {
		c.B = slot[:n]
	} else {
		c.A = slot[:n]
	}
	return c, api.OK
}

func alikeDisks(c, d api.Disk) bool { return bytes.Equal(c.A, d.A) && bytes.Equal(c.B, d.B) }

// told is a disk, short enough to be read.
func told(d api.Disk) string {
	return fmt.Sprintf("A: %d bytes, %v; B: %d bytes, %v", len(d.A), d.A[:min(len(d.A), 16)], len(d.B), d.B[:min(len(d.B), 16)])
}

func wantError(t *testing.T, what string, got, want api.Errno, rest ...any) {
	t.Helper()
	if got != want {
		t.Errorf("%s: error %d, want %d", what, got, want)
	}
	if got == api.OK {
		return
	}
	for _, x := range rest {
		if !reflect.ValueOf(x).IsZero() {
			t.Errorf("%s: %v beside an error", what, x)
		}
	}
}

// wantPool: Recover says that pool, and that number.
func wantPool(t *testing.T, what string, d api.Disk, p api.Pool, number int) {
	t.Helper()
	q, n, e := disk.Recover(d)
	if e != api.OK || n != number || !image.Same(p, q) {
		t.Errorf("%s: Recover: error %d, number %d, the same pool %v, want number %d (%s)", what, e, n, image.Same(p, q), number, told(d))
	}
}

func wantNoPool(t *testing.T, what string, d api.Disk, want api.Errno) {
	t.Helper()
	p, n, e := disk.Recover(d)
	wantError(t, what+": Recover", e, want, p, n)
}

// wantRecover: Recover says what the document says.
func wantRecover(t *testing.T, what string, d api.Disk) {
	t.Helper()
	p, n, _, e := recoverBySteps(d)
	if e != api.OK {
		wantNoPool(t, what, d, e)
		return
	}
	wantPool(t, what, d, p, int(n))
}

// wantSaidAhead: Recover of c says what Recover of d does.
func wantSaidAhead(t *testing.T, what string, c, d api.Disk) {
	t.Helper()
	p, n, e := disk.Recover(c)
	q, m, f := disk.Recover(d)
	if e != f || n != m || e == api.OK && !image.Same(p, q) {
		t.Errorf("%s: Recover: error %d, number %d, ahead of it error %d, number %d", what, e, n, f, m)
	}
}

// wantTorn: Torn says what the document says; what is recovered of it is the pool if all bytes are there, else what was ahead.
func wantTorn(t *testing.T, what string, d api.Disk, p api.Pool, n int) {
	t.Helper()
	what = fmt.Sprint(what, ", torn at ", n)
	want, wrong := tornBySteps(d, p, n)
	c, e := disk.Torn(d, p, n)
	wantError(t, what, e, wrong, c)
	if e != api.OK {
		return
	}
	if !alikeDisks(c, want) {
		t.Errorf("%s: %s, want %s", what, told(c), told(want))
	}
	whole, e := disk.Commit(d, p)
	if e == api.OK && alikeDisks(c, whole) {
		_, number, _ := disk.Recover(d)
		wantPool(t, what, c, p, number+1)
		return
	}
	wantSaidAhead(t, what, c, d)
}

// wantCommit: Commit says what the document says, what is recovered of it is the pool, and of Torn that or what was ahead.
func wantCommit(t *testing.T, what string, d api.Disk, p api.Pool) {
	t.Helper()
	want, slot, wrong := commitBySteps(d, p)
	c, e := disk.Commit(d, p)
	wantError(t, what+": Commit", e, wrong, c)
	for _, n := range []int{math.MinInt, -1, 0, 1, 4, 7, 8, 9, 10, len(slot) / 2, len(slot) - 1, len(slot), len(slot) + 1, math.MaxInt} {
		wantTorn(t, what, d, p, n)
	}
	if e != api.OK {
		return
	}
	if !alikeDisks(c, want) {
		t.Errorf("%s: Commit: %s, want %s", what, told(c), told(want))
	}
	_, number, _ := disk.Recover(d)
	wantPool(t, what+": Commit", c, p, number+1)
}

func empty(n int, tenants ...api.Tenant) api.Pool {
	return api.Pool{S: api.Store{Blocks: make([]api.Block, n)}, Tenants: tenants}
}

// small are right pools, each unlike the others, of few bytes.
func small() []api.Pool {
	return []api.Pool{{}, empty(1), empty(2), empty(api.Slack, api.Tenant{Key: 7}), empty(api.Slack+1, api.Tenant{Key: 7, Quota: 1, Sets: []api.Set{{Name: "x"}}})}
}

// bright is a right pool of two files whose leaves have nothing but 255, but that they are dim less, all in all.
func bright(dim int) api.Pool {
	p := api.Pool{}
	lay := func(b api.Block) int {
		b.Refs = 1
		p.S.Blocks = append(p.S.Blocks, b)
		return len(p.S.Blocks)
	}
	leaf := func() int {
		b := bytes.Repeat([]byte{255}, api.Leaf)
		for i := range b {
			less := min(dim, 100)
			b[i], dim = b[i]-byte(less), dim-less
		}
		return lay(api.Block{Bytes: b})
	}
	var root func(level int) int
	root = func(level int) int {
		if level == 0 {
			return leaf()
		}
		var kids []int
		for range api.Fan {
			kids = append(kids, root(level-1))
		}
		return lay(api.Block{Level: level, Kids: kids})
	}
	x := api.Set{Name: "x"}
	for _, name := range []string{"f", "g"} {
		x.Files = append(x.Files, api.Entry{Name: name, F: api.File{Root: root(api.Top), Size: api.MaxSize}})
	}
	p.S.Blocks = append(p.S.Blocks, make([]api.Block, api.Slack)...)
	p.Tenants = []api.Tenant{{Key: 5, Quota: 170, Sets: []api.Set{x}}}
	return p
}

func someAsk(r *rand.Rand) api.Ask {
	pick := func(l ...string) string { return l[r.Intn(len(l))] }
	kinds := []int{api.Make, api.Write, api.Write, api.Write, api.Snapshot, api.Clone, 1 + r.Intn(13)}
	a := api.Ask{
		Kind: kinds[r.Intn(len(kinds))], Set: pick("a", "a", "b"), File: pick("b", "c", "file0008"), To: pick("s", "t"),
		At: r.Intn(200), N: r.Intn(257), Bytes: make([]byte, r.Intn(57)),
	}
	r.Read(a.Bytes)
	return a
}

// somePool is what many asks of some tenants leave.
func somePool(t *testing.T, seed int64) api.Pool {
	t.Helper()
	r := rand.New(rand.NewSource(seed))
	tenants := r.Intn(4)
	keys, quotas := []int{r.Intn(1001), r.Intn(1001), r.Intn(1001)}, []int{r.Intn(103), r.Intn(103), r.Intn(103)}
	p, e := pool.New(api.MaxBlocks-r.Intn(2), keys[:tenants], quotas[:tenants])
	if e != api.OK {
		t.Fatal(e)
	}
	who, l := []int{0, 1, 2}, make([]api.Ask, 3)
	for i := range l {
		l[i] = api.Ask{Kind: api.Make, Set: "a"}
	}
	for range r.Intn(api.MaxScript - 2) {
		who, l = append(who, r.Intn(3)), append(l, someAsk(r))
	}
	p, _, e = pool.Run(p, who, l)
	if e != api.OK {
		t.Fatal(e)
	}
	return p
}

type namedSlot struct {
	what string
	b    []byte
}

// notWhole are slots of the greatest numbers that aren't whole, each for one cause.
func notWhole(t *testing.T) []namedSlot {
	t.Helper()
	const n = lastNumber
	laid := imageOf(t, small()[4])
	whole := slotOf(n, laid)
	turned := func(at int) []byte {
		b := slices.Clone(whole)
		b[at]++
		return b
	}
	l := []namedSlot{
		{"nil", nil}, {"empty", []byte{}}, {"a nought", []byte{0}}, {"noughts", make([]byte, 100)}, {"the most noughts", make([]byte, mostOfSlot)},
		{"255s", bytes.Repeat([]byte{255}, 100)}, {"the most 255s", bytes.Repeat([]byte{255}, mostOfSlot)},
		{"within the number", whole[:3]}, {"within the length", whole[:6]}, {"within the sum", whole[:8]}, {"no image", whole[:9]},
		{"within the image", whole[:20]}, {"one byte less", whole[:len(whole)-1]},
		{"another number", turned(3)}, {"another high byte of the sum", turned(7)}, {"another low byte of the sum", turned(8)}, {"another byte of the image", turned(12)},
		{"noughts for a sum", slices.Concat(whole[:7], []byte{0, 0}, laid)},
		{"a great length, and a right sum", summed(n, len(laid)+1, laid)},
		{"the greatest length, and a right sum", summed(n, 1<<24-1, laid)},
		{"a small length, and a right sum", slices.Concat(slotOf(n, laid[:len(laid)-1]), laid[len(laid)-1:])},
		{"no bytes, and a right sum", slotOf(n, nil)},
	}
	for _, x := range wrongImages(t) {
		l = append(l, namedSlot{x.what + ", and a right sum", slotOf(n, x.b)})
	}
	return l
}

// wrongImages are what chapter 7's Read doesn't take.
func wrongImages(t *testing.T) []namedSlot {
	t.Helper()
	laid := imageOf(t, small()[4])
	wide := append([]byte{0, 1, 0, 1, 0, 0, 0, 0, 78, 20}, make([]byte, api.MaxBytes-10)...)
	l := []namedSlot{
		{"an image that ends too early", laid[:len(laid)-1]}, {"an image that goes on", append(slices.Clone(laid), 0)},
		{"an image of one nought", []byte{0}}, {"an image of 255s", []byte{255, 255, 255, 255}},
		{"a name that is none", bytes.Replace(laid, []byte("x"), []byte("X"), 1)},
		{"a tenant without room", []byte{0, 0, 0, 1, 0, 0, 0, 0, 0, 0}},
		{"a block that isn't in form", []byte{0, 1, 0, 1, 0, 0, 0, 0, 0, 0, 0, 0}},
		{"a block that nobody holds", []byte{0, 1, 0, 1, 0, 0, 0, 0, 0, 4, 1, 2, 3, 4, 0, 0}},
		{"the most bytes of a wrong pool", wide},
	}
	for _, x := range l {
		if _, e := image.Read(x.b); e == api.OK {
			t.Fatalf("%s: it is taken", x.what)
		}
	}
	return l
}

func TestByHand(t *testing.T) {
	none := []byte{0, 0, 0, 1, 0, 0, 4, 0, 33, 0, 0, 0, 0}
	d, e := disk.Commit(api.Disk{}, api.Pool{})
	if e != api.OK || !alikeDisks(d, api.Disk{A: none}) {
		t.Errorf("Commit of nothing: %v, error %d, want %v", d, e, none)
	}
	wantPool(t, "nothing", api.Disk{A: none}, api.Pool{}, 1)
	wantPool(t, "nothing, in B", api.Disk{B: none}, api.Pool{}, 1)
	// Behind the two first numbers x is 321; of the 728 noughts that follow y is so much more each time.
	p := empty(91, api.Tenant{Key: 3, Quota: 1})
	slot := slices.Concat([]byte{0, 0, 0, 1, 0, 2, 226, 159, 120, 0, 91}, make([]byte, 728), []byte{0, 1, 0, 3, 0, 1, 0, 0})
	c, e := disk.Commit(api.Disk{}, p)
	if e != api.OK || !alikeDisks(c, api.Disk{A: slot}) {
		t.Errorf("Commit: %s, error %d", told(c), e)
	}
	wantPool(t, "a tenant", api.Disk{A: slot}, p, 1)
	second := []byte{0, 0, 0, 2, 0, 0, 4, 0, 40, 0, 0, 0, 0}
	c, e = disk.Commit(c, api.Pool{})
	if e != api.OK || !alikeDisks(c, api.Disk{A: slot, B: second}) {
		t.Errorf("the second Commit: %s, error %d", told(c), e)
	}
	wantPool(t, "the second one", c, api.Pool{}, 2)
	third := []byte{0, 0, 0, 3, 0, 0, 4, 0, 63, 0, 0, 0, 0}
	c, e = disk.Commit(c, api.Pool{})
	if e != api.OK || !alikeDisks(c, api.Disk{A: third, B: second}) {
		t.Errorf("the third Commit: %s, error %d", told(c), e)
	}
	for _, n := range []int{0, 3, 4, 6, 7, 8, 9, 12, 13} {
		x, e := disk.Torn(api.Disk{A: slot, B: second}, api.Pool{}, n)
		if e != api.OK || !alikeDisks(x, api.Disk{A: third[:n], B: second}) {
			t.Errorf("Torn at %d: %s, error %d", n, told(x), e)
		}
	}
}

// The sums of these have an x of more than the modulus, of just that, and of one less and more.
func TestSumsGoRound(t *testing.T) {
	laid := imageOf(t, bright(0))
	halves := adler32.Checksum(slices.Concat([]byte{0, 0, 0, 1, 0, byte(len(laid) / 256), byte(len(laid) % 256)}, laid))
	x := int(halves & 65535)
	seen := map[int]int{}
	for _, dim := range []int{0, 1, x - 1, x, x + 1, x + 2, x + 300, 40000} {
		p := bright(dim)
		slot := poolSlot(t, 1, p)
		seen[int(adler32.Checksum(slices.Concat(slot[:7], slot[9:]))&65535)]++
		wantPool(t, fmt.Sprint(dim, " less"), api.Disk{B: slot}, p, 1)
		wantCommit(t, fmt.Sprint(dim, " less"), api.Disk{}, p)
	}
	for _, x := range []int{0, 1, 65519, 65520} {
		if seen[x] == 0 {
			t.Errorf("no sum has the x %d: %v", x, seen)
		}
	}
}

func TestNothingOnTheDisk(t *testing.T) {
	for _, d := range []api.Disk{{}, {A: []byte{}}, {B: []byte{}}, {A: []byte{}, B: []byte{}}} {
		wantNoPool(t, "two empty slots", d, api.ErrTorn)
		for _, p := range small() {
			wantCommit(t, "two empty slots", d, p)
		}
		c, e := disk.Commit(d, empty(1))
		if e != api.OK || len(c.A) == 0 || len(c.B) != 0 {
			t.Errorf("the first Commit: %s, error %d", told(c), e)
		}
	}
}

// One slot is whole, and the other one is not: what it seems to have doesn't count.
func TestOneIsWhole(t *testing.T) {
	l := notWhole(t)
	for _, x := range l {
		for _, y := range l {
			wantNoPool(t, x.what+"; "+y.what, api.Disk{A: x.b, B: y.b}, api.ErrTorn)
		}
		wantCommit(t, x.what+"; none is whole", api.Disk{A: l[0].b, B: x.b}, empty(2))
		wantCommit(t, x.what+"; neither is whole", api.Disk{A: x.b, B: x.b}, empty(2))
		for _, number := range []uint32{0, 1, 255, 256, 16909060, lastNumber - 1, lastNumber, lastNumber + 1, math.MaxUint32} {
			whole := poolSlot(t, number, empty(3))
			for _, d := range []api.Disk{{A: whole, B: x.b}, {A: x.b, B: whole}} {
				what := fmt.Sprint(x.what, " beside number ", number)
				wantPool(t, what, d, empty(3), int(number))
				wantCommit(t, what, d, empty(2))
			}
		}
	}
}

// numbers are such as differ in one byte of the four, or in the sign that they would have.
func numbers() []uint32 {
	return []uint32{
		0, 1, 2, 255, 256, 257, 65535, 65536, 16777215, 16777216, 16909060, 67305985,
		lastNumber - 2, lastNumber - 1, lastNumber, lastNumber + 1, lastNumber + 2, 4278190080, math.MaxUint32 - 1, math.MaxUint32,
	}
}

func TestBothAreWhole(t *testing.T) {
	p, q, next := small()[3], small()[4], small()[1]
	for _, a := range numbers() {
		for _, b := range numbers() {
			what := fmt.Sprint(a, " and ", b)
			d := api.Disk{A: poolSlot(t, a, p), B: poolSlot(t, b, q)}
			if a >= b {
				wantPool(t, what, d, p, int(a))
			} else {
				wantPool(t, what, d, q, int(b))
			}
			wantCommit(t, what, d, next)
			c, e := disk.Commit(d, next)
			want := api.Disk{A: d.A, B: poolSlot(t, a+1, next)}
			if a < b {
				want = api.Disk{A: poolSlot(t, b+1, next), B: d.B}
			}
			switch {
			case max(a, b) >= 2147483647:
				wantError(t, what, e, api.ErrFull, c)
			case e != api.OK || !alikeDisks(c, want):
				t.Errorf("%s: %s, error %d, want %s", what, told(c), e, told(want))
			}
		}
	}
}

// The last numbers: there is one more Commit of 2147483646, and none of 2147483647.
func TestTheLastNumber(t *testing.T) {
	d := api.Disk{A: poolSlot(t, 5, empty(1)), B: poolSlot(t, 2147483645, empty(2))}
	d, e := disk.Commit(d, empty(3))
	if e != api.OK || !bytes.Equal(d.A[:4], []byte{127, 255, 255, 254}) {
		t.Errorf("2147483646: %s, error %d", told(d), e)
	}
	d, e = disk.Commit(d, empty(4))
	if e != api.OK || !bytes.Equal(d.B[:4], []byte{127, 255, 255, 255}) {
		t.Errorf("2147483647: %s, error %d", told(d), e)
	}
	wantPool(t, "2147483647", d, empty(4), 2147483647)
	c, e := disk.Commit(d, empty(5))
	wantError(t, "none behind it", e, api.ErrFull, c)
	c, e = disk.Torn(d, empty(5), 0)
	wantError(t, "none behind it, torn", e, api.ErrFull, c)
	// When that slot is torn, the other one has a next number again.
	d.B = d.B[:len(d.B)-1]
	wantCommit(t, "torn", d, empty(5))
	wantPool(t, "torn", d, empty(3), 2147483646)
}

// A slot that ends at every place: within the number, the length, the sum, the image.
func TestEndsTooEarly(t *testing.T) {
	for i, p := range append(small(), somePool(t, 3)) {
		slot := poolSlot(t, 9, p)
		// What stands in the spare room is no part of it.
		for n := range slot {
			for _, cut := range [][]byte{slot[:n:n], slot[:n]} {
				what := fmt.Sprint("pool ", i, ", ", n, " bytes of ", len(slot))
				wantNoPool(t, what, api.Disk{A: cut}, api.ErrTorn)
				wantNoPool(t, what, api.Disk{B: cut}, api.ErrTorn)
				for _, number := range []uint32{8, 9, 10} {
					whole := poolSlot(t, number, empty(7))
					wantPool(t, what, api.Disk{A: cut, B: whole}, empty(7), int(number))
					wantPool(t, what, api.Disk{A: whole, B: cut}, empty(7), int(number))
				}
			}
		}
		wantPool(t, "all bytes", api.Disk{B: slot}, p, 9)
	}
}

// Whatever stands behind a whole slot: it is whole, and stays as it is when the other one is written.
func TestBytesBehind(t *testing.T) {
	for i, p := range append(small(), somePool(t, 4), bright(0)) {
		slot := poolSlot(t, 4, p)
		rest := mostOfSlot - len(slot)
		for _, more := range [][]byte{{0}, {1}, {255, 255}, poolSlot(t, 7, empty(1)), slot, make([]byte, rest-1), make([]byte, rest), bytes.Repeat([]byte{255}, rest)} {
			if len(more) > rest {
				continue
			}
			longer := slices.Concat(slot, more)
			what := fmt.Sprint("pool ", i, ", ", len(more), " bytes behind")
			wantPool(t, what, api.Disk{A: longer}, p, 4)
			wantPool(t, what, api.Disk{A: poolSlot(t, 3, empty(2)), B: longer}, p, 4)
			wantPool(t, what, api.Disk{A: poolSlot(t, 5, empty(2)), B: longer}, empty(2), 5)
			wantCommit(t, what, api.Disk{A: longer}, empty(3))
			c, e := disk.Commit(api.Disk{A: poolSlot(t, 3, empty(2)), B: longer}, empty(3))
			if e != api.OK || !alikeDisks(c, api.Disk{A: poolSlot(t, 5, empty(3)), B: longer}) {
				t.Errorf("%s: Commit: %s, error %d", what, told(c), e)
			}
			// Of what stood behind in the place that is written, nothing is left.
			c, e = disk.Commit(api.Disk{A: longer, B: poolSlot(t, 6, empty(2))}, empty(3))
			if e != api.OK || !alikeDisks(c, api.Disk{A: poolSlot(t, 7, empty(3)), B: poolSlot(t, 6, empty(2))}) {
				t.Errorf("%s: Commit over it: %s, error %d", what, told(c), e)
			}
		}
	}
}

// turnAll holds Recover against the document with each byte of slot turned, alone and beside a whole one; and answers, by
// the byte's place, how often it was whole still.
func turnAll(t *testing.T, what string, slot []byte, values ...int) map[int]int {
	t.Helper()
	still := map[int]int{}
	beside := poolSlot(t, 1, empty(3))
	for i := range slot {
		for _, x := range values {
			turned := slices.Clone(slot)
			turned[i] += byte(x)
			at := fmt.Sprint(what, ", byte ", i, " and ", x)
			wantRecover(t, at, api.Disk{A: turned})
			wantRecover(t, at, api.Disk{A: turned, B: beside})
			wantRecover(t, at, api.Disk{A: beside, B: turned})
			if _, _, e := disk.Recover(api.Disk{B: turned}); e == api.OK {
				still[i]++
			}
		}
	}
	return still
}

func TestTurnedBytes(t *testing.T) {
	var values []int
	for x := 1; x < 256; x++ {
		values = append(values, x)
	}
	turnAll(t, "nothing", poolSlot(t, 1, api.Pool{}), values...)
	turnAll(t, "one block", poolSlot(t, 16909060, empty(1)), values...)
	for seed := range int64(3) {
		slot := poolSlot(t, lastNumber, somePool(t, seed))
		n := 0
		for i, k := range turnAll(t, fmt.Sprint("seed ", seed), slot, 1, 128, 255) {
			n += k
			if i >= 4 && i < 9 {
				t.Errorf("seed %d: byte %d, of the length or the sum, was turned, and it is whole", seed, i)
			}
		}
		// A sum of two bytes can't tell all of them.
		if n > 20 {
			t.Errorf("seed %d: it was whole with %d of %d turned bytes", seed, n, 3*len(slot))
		}
	}
}

// Another length than what the image has, with a sum that is right over what there is, or over what it tells.
func TestLengths(t *testing.T) {
	for i, p := range small() {
		laid := imageOf(t, p)
		for _, length := range []int{0, 1, len(laid) - 1, len(laid) + 1, len(laid) + 2, len(laid) + 256, len(laid) + 65536, 65535, 65536, 8388608, 16777215} {
			what := fmt.Sprint("pool ", i, ", the length ", length, " of ", len(laid))
			wantNoPool(t, what, api.Disk{A: summed(3, length, laid)}, api.ErrTorn)
			wantPool(t, what, api.Disk{A: poolSlot(t, 2, empty(3)), B: summed(3, length, laid)}, empty(3), 2)
			if length < len(laid) {
				wantNoPool(t, what+", cut", api.Disk{A: append(slotOf(3, laid[:length]), laid[length:]...)}, api.ErrTorn)
			}
		}
		// The bytes behind are counted as the image's, so that it goes on.
		longer := append(slices.Clone(laid), 0, 0)
		wantNoPool(t, "more of the image", api.Disk{A: slotOf(3, longer)}, api.ErrTorn)
		wantPool(t, "behind the image", api.Disk{A: append(slotOf(3, laid), 0, 0)}, p, 3)
	}
}

func TestMostBytes(t *testing.T) {
	whole := poolSlot(t, 2, empty(1))
	fill := func(n int) []byte { return append(slices.Clone(whole), make([]byte, n-len(whole))...) }
	full := poolSlot(t, lastNumber, empty(2))
	wantPool(t, "just the most", api.Disk{A: fill(mostOfSlot), B: fill(mostOfSlot)}, empty(1), 2)
	wantCommit(t, "just the most", api.Disk{A: fill(mostOfSlot), B: fill(mostOfSlot)}, empty(3))
	for _, n := range []int{mostOfSlot + 1, mostOfSlot + 2, 65536, 1000000} {
		for _, long := range [][]byte{fill(n), make([]byte, n), bytes.Repeat([]byte{255}, n)} {
			for _, other := range [][]byte{nil, whole, full, long} {
				for _, d := range []api.Disk{{A: long, B: other}, {A: other, B: long}} {
					wantNoPool(t, fmt.Sprint(n, " bytes"), d, api.ErrMany)
					wantCommit(t, fmt.Sprint(n, " bytes"), d, empty(3))
				}
			}
		}
	}
	// The spare room doesn't count.
	wantPool(t, "much room", api.Disk{A: fill(100000)[:len(whole)]}, empty(1), 2)
}

// wrongPool is a pool with one thing that is wrong, and the error that tells of it.
type wrongPool struct {
	p    api.Pool
	want api.Errno
}

func wrongPools() []wrongPool {
	block := func(b api.Block) api.Pool { return api.Pool{S: api.Store{Blocks: []api.Block{b}}} }
	sets := func(l ...api.Set) api.Pool { return empty(api.Slack, api.Tenant{Sets: l}) }
	return []wrongPool{
		{empty(api.MaxBlocks + 1), api.ErrMany},
		{block(api.Block{Refs: -1}), api.ErrRange},
		{block(api.Block{Refs: 65536, Bytes: make([]byte, 4)}), api.ErrHeld},
		{block(api.Block{Level: 1}), api.ErrForm},
		{block(api.Block{Refs: 1, Level: 1, Kids: []int{2, 0, 0, 0}}), api.ErrWho},
		{block(api.Block{Refs: 1, Bytes: make([]byte, 4)}), api.ErrHeld},
		{empty(api.Slack-1, api.Tenant{}), api.ErrFull},
		{empty(api.Slack, api.Tenant{Key: -1}), api.ErrRange},
		{empty(api.Slack, make([]api.Tenant, 4)...), api.ErrMany},
		{sets(api.Set{Name: ""}), api.ErrText},
		{sets(api.Set{Name: "a"}, api.Set{Name: "a"}), api.ErrTwice},
		{sets(api.Set{Name: "a", Files: []api.Entry{{Name: "f", F: api.File{Root: 1}}}}), api.ErrWho},
	}
}

// Each error alone, and with each later one beside it: too long a slot, a wrong pool, no number, no such place.
func TestErrorsInTheirOrder(t *testing.T) {
	long := make([]byte, mostOfSlot+1)
	full, last := poolSlot(t, lastNumber+1, empty(1)), poolSlot(t, lastNumber, empty(2))
	whole := poolSlot(t, 1, empty(3))
	check := func(what string, d api.Disk, p api.Pool, n int, want api.Errno) {
		t.Helper()
		c, e := disk.Commit(d, p)
		wantError(t, what+": Commit", e, want, c)
		for _, n := range []int{n, 0, -1, math.MaxInt, math.MinInt} {
			c, e := disk.Torn(d, p, n)
			wantError(t, fmt.Sprint(what, ": Torn at ", n), e, want, c)
		}
	}
	for _, x := range append(wrongPools(), wrongPool{empty(3), api.OK}) {
		if e := pool.Check(x.p); e != x.want {
			t.Fatalf("error %d of a pool, want %d", e, x.want)
		}
		for _, other := range [][]byte{nil, whole, full, last} {
			check("too long in A", api.Disk{A: long, B: other}, x.p, 5, api.ErrMany)
			check("too long in B", api.Disk{A: other, B: long}, x.p, 5, api.ErrMany)
			if x.want != api.OK {
				check("a wrong pool", api.Disk{A: other}, x.p, 5, x.want)
				check("a wrong pool", api.Disk{A: whole, B: other}, x.p, 5, x.want)
			}
		}
	}
	for _, d := range []api.Disk{{A: full}, {B: full}, {A: last}, {B: last}, {A: last, B: full}, {A: full, B: last}, {A: last, B: last}, {A: whole, B: last}} {
		check("no number", d, empty(4), 5, api.ErrFull)
	}
	// Of a wrong place Torn alone tells, behind all others.
	for _, d := range []api.Disk{{}, {A: whole}, {B: whole}, {A: whole, B: whole}, {A: full[:9], B: whole}} {
		slot, _, _ := commitBySteps(d, empty(4))
		for _, n := range []int{-1, -9, math.MinInt, max(len(slot.A), len(slot.B)) + 1, 1 << 32, math.MaxInt} {
			c, e := disk.Torn(d, empty(4), n)
			wantError(t, fmt.Sprint("Torn at ", n), e, api.ErrRange, c)
		}
	}
}

// Torn at every byte, of disks of all kinds.
func TestTornEverywhere(t *testing.T) {
	p := small()[4]
	size := len(poolSlot(t, 1, p))
	a, b := poolSlot(t, 6, empty(2)), poolSlot(t, 7, empty(40))
	for i, d := range []api.Disk{{}, {A: a}, {B: b}, {A: a, B: b}, {A: b, B: a}, {A: a, B: b[:50]}, {A: b[1:], B: a[1:]}, {A: make([]byte, mostOfSlot), B: a}} {
		for n := -2; n <= size+2; n++ {
			wantTorn(t, fmt.Sprint("disk ", i), d, p, n)
			c, e := disk.Torn(d, p, n)
			switch {
			case n < 0 || n > size:
				wantError(t, fmt.Sprint("disk ", i, " at ", n), e, api.ErrRange, c)
			case n < size:
				wantSaidAhead(t, fmt.Sprint("disk ", i, " at ", n), c, d)
			default:
				_, ahead, _ := disk.Recover(d)
				wantPool(t, fmt.Sprint("disk ", i, ", all"), c, p, ahead+1)
			}
		}
	}
}

// spoilt is b with some bytes turned, taken out, laid between, or cut off; mostly it isn't whole then.
func spoilt(r *rand.Rand, b []byte) []byte {
	b = slices.Clone(b)
	if len(b) == 0 {
		return make([]byte, r.Intn(30))
	}
	i := r.Intn(len(b))
	if r.Intn(2) == 0 {
		i = r.Intn(min(len(b), 11))
	}
	switch r.Intn(5) {
	case 0:
		return b[:i]
	case 1:
		return slices.Delete(b, i, i+1)
	case 2:
		return slices.Insert(b, i, byte(r.Intn(256)))
	case 3:
		return append(b, make([]byte, r.Intn(9))...)
	}
	b[i] += byte(1 + r.Intn(255))
	return b
}

// Many pools, one after the other, on disks that are torn, and spoilt, now and then.
func TestManyDisks(t *testing.T) {
	var pools []api.Pool
	for seed := range int64(40) {
		pools = append(pools, somePool(t, seed))
	}
	pools = append(pools, small()...)
	torn, committed, spoiled := 0, 0, 0
	for seed := range int64(40) {
		r := rand.New(rand.NewSource(seed))
		d := api.Disk{}
		if r.Intn(2) == 0 {
			number := lastNumber - uint32(r.Intn(12))
			d.A, d.B = poolSlot(t, number-1, pools[0]), poolSlot(t, number, pools[1])
		}
		for range 12 {
			what := fmt.Sprint("seed ", seed)
			p := pools[r.Intn(len(pools))]
			wantRecover(t, what, d)
			wantCommit(t, what, d, p)
			switch c, e := disk.Commit(d, p); {
			case e != api.OK:
				d = api.Disk{}
			case r.Intn(3) == 0:
				d, _ = disk.Torn(d, p, r.Intn(len(imageOf(t, p))+10))
				torn++
			case r.Intn(6) == 0:
				d.A = spoilt(r, d.A)
				spoiled++
			case r.Intn(6) == 0:
				d.B = spoilt(r, d.B)
				spoiled++
			default:
				d = c
				committed++
			}
		}
	}
	if torn < 50 || committed < 50 || spoiled < 50 {
		t.Errorf("few were torn (%d), committed (%d), spoilt (%d)", torn, committed, spoiled)
	}
}

// Disks of any bytes at all.
func TestAnyBytes(t *testing.T) {
	whole := 0
	for seed := range int64(4000) {
		r := rand.New(rand.NewSource(seed))
		some := func() []byte {
			b := make([]byte, r.Intn(40))
			for i := range b {
				if r.Intn(4) == 0 {
					b[i] = byte(r.Intn(6))
				}
			}
			if r.Intn(3) > 0 {
				b = append(slotOf(uint32(r.Intn(4)), b[len(b)/2:]), b[:len(b)/2]...)
			}
			if r.Intn(3) == 0 {
				b = poolSlot(t, uint32(r.Intn(4)), empty(r.Intn(3)))
			}
			return b
		}
		d := api.Disk{A: some(), B: some()}
		wantRecover(t, fmt.Sprint("seed ", seed), d)
		wantCommit(t, fmt.Sprint("seed ", seed), d, empty(r.Intn(3)))
		if _, _, e := disk.Recover(d); e == api.OK {
			whole++
		}
	}
	if whole < 500 || whole > 3500 {
		t.Errorf("%d of 4000 disks have a whole slot", whole)
	}
}

// lists are all lists of a pool, whole: with their spare room.
func lists(p api.Pool) []reflect.Value {
	l := []reflect.Value{reflect.ValueOf(p.S.Blocks), reflect.ValueOf(p.Tenants)}
	for _, b := range p.S.Blocks {
		l = append(l, reflect.ValueOf(b.Kids), reflect.ValueOf(b.Bytes))
	}
	for _, t := range p.Tenants {
		l = append(l, reflect.ValueOf(t.Sets))
		for _, x := range t.Sets {
			l = append(l, reflect.ValueOf(x.Files), reflect.ValueOf(x.Snaps))
			for _, snap := range x.Snaps {
				l = append(l, reflect.ValueOf(snap.Files))
			}
		}
	}
	return l
}

func slotLists(d api.Disk) []reflect.Value {
	return []reflect.Value{reflect.ValueOf(d.A), reflect.ValueOf(d.B)}
}

func size(v reflect.Value) uintptr { return uintptr(v.Cap()) * v.Type().Elem().Size() }

// wantApart: no two of these lists share memory.
func wantApart(t *testing.T, what string, l ...reflect.Value) {
	t.Helper()
	l = slices.DeleteFunc(l, func(v reflect.Value) bool { return size(v) == 0 })
	slices.SortFunc(l, func(x, y reflect.Value) int { return int(x.Pointer()) - int(y.Pointer()) })
	for k := 1; k < len(l); k++ {
		if l[k-1].Pointer()+size(l[k-1]) > l[k].Pointer() {
			t.Fatalf("%s: lists share memory: %v, %v", what, l[k-1], l[k])
		}
	}
}

// roomy is l with spare room behind it, filled with x.
func roomy[T any](l []T, x T) []T {
	out := append(make([]T, 0, len(l)+9), l...)
	for i := len(l); i < cap(out); i++ {
		out[:cap(out)][i] = x
	}
	return out
}

// roomyPool is p, all its lists with spare room behind them.
func roomyPool(p api.Pool) api.Pool {
	spare := api.Entry{Name: "spare", F: api.File{Size: 1}}
	blocks := roomy(p.S.Blocks, api.Block{Refs: 1})
	for i, b := range blocks {
		blocks[i].Kids, blocks[i].Bytes = roomy(b.Kids, 3), roomy(b.Bytes, 3)
	}
	tenants := roomy(p.Tenants, api.Tenant{Key: 9})
	for i := range tenants {
		tenants[i].Sets = roomy(tenants[i].Sets, api.Set{Name: "spare"})
		for j, x := range tenants[i].Sets {
			snaps := roomy(x.Snaps, api.Snap{Name: "spare"})
			for k := range snaps {
				snaps[k].Files = roomy(snaps[k].Files, spare)
			}
			tenants[i].Sets[j] = api.Set{Name: x.Name, Files: roomy(x.Files, spare), Snaps: snaps}
		}
	}
	return api.Pool{S: api.Store{Blocks: blocks}, Tenants: tenants}
}

// all tells all of a disk and a pool, with the spare room of their lists.
func all(d api.Disk, p api.Pool) string {
	out := fmt.Sprint(len(d.A), len(d.B), len(p.S.Blocks), len(p.Tenants))
	for _, v := range append(slotLists(d), lists(p)...) {
		out += fmt.Sprint(v.Len(), v.Slice(0, v.Cap()))
	}
	return out
}

func TestWhatIsHandedInIsOnlyRead(t *testing.T) {
	a, b := poolSlot(t, 6, somePool(t, 11)), poolSlot(t, 7, somePool(t, 12))
	last, long := poolSlot(t, lastNumber, empty(1)), make([]byte, mostOfSlot+1)
	disks := []api.Disk{
		{}, {A: []byte{}, B: []byte{}}, {A: a}, {B: b}, {A: a, B: b}, {A: b, B: a}, {A: a[:30], B: b[:40]}, {A: append(slices.Clone(a), 1, 2), B: b[:4]},
		{A: last, B: a}, {A: a, B: last}, {A: a, B: long}, {A: long, B: b},
	}
	pools := []api.Pool{{}, empty(3), somePool(t, 13), bright(7), empty(api.MaxBlocks + 1), empty(7, api.Tenant{Key: -1})}
	for i, x := range disks {
		for j, y := range pools {
			what := fmt.Sprint("disk ", i, ", pool ", j)
			d, p := api.Disk{A: roomy(x.A, 3), B: roomy(x.B, 3)}, roomyPool(y)
			ahead := all(d, p)
			q, number, e := disk.Recover(d)
			c, wrong := disk.Commit(d, p)
			torn, _ := disk.Torn(d, p, 13)
			none, _ := disk.Torn(d, p, 0)
			disk.Torn(d, p, -1)
			if all(d, p) != ahead {
				t.Fatalf("%s: what was handed in was changed", what)
			}
			given := append(slotLists(d), lists(p)...)
			wantApart(t, what, slices.Concat(given, lists(q), slotLists(c), slotLists(torn), slotLists(none))...)
			// Nothing of the answers, names neither, hangs on what becomes of what was handed in.
			answers := all(c, q) + all(torn, api.Pool{}) + all(none, api.Pool{})
			again, m, f := disk.Recover(d)
			commit, same := disk.Commit(d, p)
			if all(commit, again) != all(c, q) || m != number || e != f || wrong != same {
				t.Fatalf("%s: another answer the second time", what)
			}
			clear(d.A[:cap(d.A)])
			clear(d.B[:cap(d.B)])
			for _, v := range given {
				reflect.ValueOf(v.Slice(0, v.Cap()).Interface()).Clear()
			}
			if all(c, q)+all(torn, api.Pool{})+all(none, api.Pool{}) != answers {
				t.Fatalf("%s: the answers share memory with what was handed in", what)
			}
		}
	}
}
