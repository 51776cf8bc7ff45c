package set_test

import (
	"bytes"
	"fmt"
	"maps"
	"math"
	"math/rand"
	"reflect"
	"slices"
	"strings"
	"testing"

	"rookery/api"
	"rookery/file"
	"rookery/set"
	"rookery/store"
)

const key = 7

func entry(name string, f api.File) api.Entry { return api.Entry{Name: name, F: f} }

// write makes a file of f with b over it, held once, and stops the test if it can't.
func write(t *testing.T, s api.Store, f api.File, at int, b string) (api.Store, api.File) {
	t.Helper()
	s, g, e := file.Write(s, key, f, at, []byte(b))
	if e != api.OK {
		t.Fatalf("Write of %q: error %d", b, e)
	}
	return s, g
}

// nest is a right store of n blocks, and a set in it whose roots are held just as often as they stand there: one four
// times, another one, which shares a leaf with it, twice. One file and one snap have nothing.
func nest(t *testing.T, n int) (api.Store, api.Set) {
	t.Helper()
	s, _ := store.New(n)
	s, one := write(t, s, api.File{}, 0, "one!")
	s, two := write(t, s, one, 4, "two")
	for range 3 {
		s, _ = store.Keep(s, one.Root)
	}
	s, _ = store.Keep(s, two.Root)
	return s, api.Set{
		Name:  "x",
		Files: []api.Entry{entry("b", one), entry("d", two), entry("f", api.File{Size: 9})},
		Snaps: []api.Snap{
			{Name: "m", Files: []api.Entry{entry("b", one), entry("c", one), entry("d", two)}},
			{Name: "p"},
			{Name: "r", Files: []api.Entry{entry("a", one), entry("z", api.File{})}},
		},
	}
}

func wantZero(t *testing.T, what string, l ...any) {
	t.Helper()
	for _, x := range l {
		if !reflect.ValueOf(x).IsZero() {
			t.Errorf("%s: %v beside an error", what, x)
		}
	}
}

func firstOf(l ...api.Errno) api.Errno {
	for _, e := range l {
		if e != api.OK {
			return e
		}
	}
	return api.OK
}

func when(wrong bool, e api.Errno) api.Errno {
	if wrong {
		return e
	}
	return api.OK
}

func roots(x api.Set) []int {
	var l []int
	for _, f := range x.Files {
		l = append(l, f.F.Root)
	}
	for _, snap := range x.Snaps {
		for _, f := range snap.Files {
			l = append(l, f.F.Root)
		}
	}
	return l
}

// wantHeld: all sets are right, their roots are held just as often as they stand there, and nothing else is there.
func wantHeld(t *testing.T, what string, s api.Store, sets ...api.Set) {
	t.Helper()
	counts, all := make([]int, len(s.Blocks)), []int{}
	for _, x := range sets {
		if e := firstOf(set.Check(s, key, x), set.Held(s, x)); e != api.OK {
			t.Fatalf("%s: error %d of %v", what, e, x)
		}
		for _, root := range roots(x) {
			all = append(all, root)
			if root != 0 {
				counts[root-1]++
			}
		}
	}
	outside, e := store.Outside(s)
	if e != api.OK || !slices.Equal(outside, counts) {
		t.Fatalf("%s: held outside %v, error %d, want %v", what, outside, e, counts)
	}
	reached, _ := store.Reach(s, all)
	if n, _ := store.Used(s); n != len(reached) {
		t.Fatalf("%s: %d blocks are there, %d are somebody's", what, n, len(reached))
	}
}

func TestName(t *testing.T) {
	for _, name := range []string{"a", "z", "m", "0", "9", "a1", "1a", "abcdefgh", "01234567", "zzzzzzzz"} {
		if !set.Name(name) {
			t.Errorf("%q is no name", name)
		}
	}
	for _, name := range []string{"", "abcdefghi", strings.Repeat("a", 1000), "a b", "aB", "a-", ".a", "ä", "aä", "é", "１", "a\x00", "a\n", "abcdefg\xff"} {
		if set.Name(name) {
			t.Errorf("%q is a name", name)
		}
	}
	for c := range 256 {
		for n := range api.MaxName {
			name := strings.Repeat("q", n) + string([]byte{byte(c)}) + strings.Repeat("7", api.MaxName-1-n)
			if want := strings.IndexByte("abcdefghijklmnopqrstuvwxyz0123456789", byte(c)) >= 0; set.Name(name) != want {
				t.Errorf("Name of %q: %v", name, !want)
			}
		}
	}
}

// fault is one thing that is wrong with a store, a key or a set, and the error that tells of it.
type fault struct {
	what string
	turn func(s *api.Store, key *int, x *api.Set)
	want api.Errno
}

func inSet(what string, want api.Errno, turn func(x *api.Set)) fault {
	return fault{what, func(_ *api.Store, _ *int, x *api.Set) { turn(x) }, want}
}

func inStore(what string, want api.Errno, turn func(s *api.Store)) fault {
	return fault{what, func(s *api.Store, _ *int, _ *api.Set) { turn(s) }, want}
}

func tooMany(l []api.Entry) []api.Entry {
	for len(l) <= api.MaxFiles {
		l = append(l, entry(fmt.Sprint("zz", len(l)), api.File{}))
	}
	return l
}

// faultsOfFiles are what may be wrong with a list of files, which pick finds in a set, in the order of the document.
func faultsOfFiles(where string, pick func(x *api.Set) *[]api.Entry) []fault {
	in := func(what string, want api.Errno, turn func(l []api.Entry)) fault {
		return inSet(where+": "+what, want, func(x *api.Set) { turn(*pick(x)) })
	}
	file := func(what string, want api.Errno, i int, f api.File) fault {
		return in(fmt.Sprint(what, " of file ", i), want, func(l []api.Entry) { l[i].F = f })
	}
	out := []fault{inSet(where+": too many", api.ErrMany, func(x *api.Set) { *pick(x) = tooMany(*pick(x)) })}
	for i := range 2 {
		out = append(out, in(fmt.Sprint("no name of file ", i), api.ErrText, func(l []api.Entry) { l[i].Name = "" }))
		if i > 0 {
			out = append(out,
				in("the same name", api.ErrTwice, func(l []api.Entry) { l[i].Name = l[i-1].Name }),
				in("a name ahead", api.ErrTwice, func(l []api.Entry) { l[i].Name = "0" }))
		}
		out = append(out,
			file("a negative size", api.ErrRange, i, api.File{Size: -1}),
			file("a great size, no such root", api.ErrRange, i, api.File{Root: 99, Size: api.MaxSize + 1}),
			file("no such root", api.ErrWho, i, api.File{Root: 99, Size: 9}),
			file("a negative root", api.ErrWho, i, api.File{Root: -1, Size: 9}),
			file("a free root", api.ErrWho, i, api.File{Root: 30, Size: 9}),
			file("a leaf as root", api.ErrForm, i, api.File{Root: 1, Size: 9}),
			file("a byte behind the size", api.ErrForm, i, api.File{Root: 4, Size: 3}))
	}
	return out
}

// faults are what may be wrong with the nest, in the order in which Check, and then Held, tell it.
func faults() []fault {
	l := []fault{
		{"a negative key", func(_ *api.Store, key *int, _ *api.Set) { *key = -1 }, api.ErrRange},
		{"a great key", func(_ *api.Store, key *int, _ *api.Set) { *key = api.MaxKey + 1 }, api.ErrRange},
		inStore("too many blocks", api.ErrMany, func(s *api.Store) { s.Blocks = append(s.Blocks, make([]api.Block, api.MaxBlocks)...) }),
		inStore("a free block that isn't zero", api.ErrForm, func(s *api.Store) { s.Blocks[31].Level = 1 }),
		inStore("negative Refs", api.ErrRange, func(s *api.Store) { s.Blocks[32].Refs = -1 }),
		inStore("a short leaf", api.ErrForm, func(s *api.Store) { s.Blocks[33] = api.Block{Refs: 1, Bytes: []byte{1}} }),
		inStore("no such kid", api.ErrWho, func(s *api.Store) { s.Blocks[34] = api.Block{Refs: 1, Level: 1, Kids: []int{99, 0, 0, 0}} }),
		inStore("held too rarely", api.ErrHeld, func(s *api.Store) { s.Blocks[35] = api.Block{Refs: 1, Level: 1, Kids: []int{1, 1, 1, 1}} }),
		inSet("no name", api.ErrText, func(x *api.Set) { x.Name = "X" }),
	}
	l = append(l, faultsOfFiles("Files", func(x *api.Set) *[]api.Entry { return &x.Files })...)
	l = append(l, inSet("too many snaps", api.ErrMany, func(x *api.Set) { x.Snaps = append(x.Snaps, api.Snap{Name: "zz"}) }))
	l = append(l, inSet("no name of snap 0", api.ErrText, func(x *api.Set) { x.Snaps[0].Name = "toolonga9" }))
	l = append(l, faultsOfFiles("snap 0", func(x *api.Set) *[]api.Entry { return &x.Snaps[0].Files })...)
	l = append(l,
		inSet("no name of snap 1", api.ErrText, func(x *api.Set) { x.Snaps[1].Name = "" }),
		inSet("the same name as snap 0", api.ErrTwice, func(x *api.Set) { x.Snaps[1].Name = x.Snaps[0].Name }),
		inSet("too many files of snap 1", api.ErrMany, func(x *api.Set) { x.Snaps[1].Files = tooMany(nil) }),
		inSet("a name ahead of snap 1", api.ErrTwice, func(x *api.Set) { x.Snaps[2].Name = "n" }))
	l = append(l, faultsOfFiles("snap 2", func(x *api.Set) *[]api.Entry { return &x.Snaps[2].Files })...)
	return append(l, inStore("held once less", api.ErrHeld, func(s *api.Store) { s.Blocks[3].Refs-- }))
}

// wrongAsks are asks that are wrong by themselves, but for what is asked of them first.
func wrongAsks() []api.Ask {
	l := []api.Ask{{Kind: 0}, {Kind: api.Read, File: "none"}, {Kind: api.List}, {Kind: api.Uses}}
	for kind := api.Write; kind <= api.Back; kind++ {
		l = append(l, api.Ask{Kind: kind, File: "?", To: "?", At: -1, N: -1}, api.Ask{Kind: kind, File: "b", To: "e", N: 3, Bytes: []byte{1}})
	}
	return l
}

func wantError(t *testing.T, what string, got, want api.Errno, rest ...any) {
	t.Helper()
	if got != want {
		t.Errorf("%s: error %d, want %d", what, got, want)
	}
	if got != api.OK {
		wantZero(t, what, rest...)
	}
}

// Each fault of a set alone, and each with each later one beside it, in all calls.
func TestFaultsInTheirOrder(t *testing.T) {
	l := faults()
	for i, first := range l {
		for j := i; j < len(l); j++ {
			s, x := nest(t, 40)
			k := key
			// The later one goes first, so that what the first one turns stays so.
			l[j].turn(&s, &k, &x)
			first.turn(&s, &k, &x)
			what := first.what + "; " + l[j].what
			inCheck := first.want
			if i == len(l)-1 {
				inCheck = api.OK
			}
			wantError(t, "Check: "+what, set.Check(s, k, x), inCheck)
			for _, a := range wrongAsks() {
				got, y, e := set.Do(s, k, x, a)
				wantError(t, "Do: "+what, e, first.want, got, y)
				if inCheck != api.OK {
					answer, e := set.Look(s, k, x, a)
					wantError(t, "Look: "+what, e, inCheck, answer)
				}
			}
			for _, name := range []string{"", "n"} {
				got, y, e := set.Clone(s, k, x, name, name)
				wantError(t, "Clone: "+what, e, first.want, got, y)
			}
			got, e := set.Destroy(s, k, x)
			wantError(t, "Destroy: "+what, e, first.want, got)
		}
	}
}

func TestCheckAtTheEdges(t *testing.T) {
	s, x := nest(t, 40)
	wantHeld(t, "nest", s, x)
	six := tooMany(nil)[:api.MaxFiles]
	snaps := []api.Snap{{Name: "0", Files: six}, {Name: "00", Files: six}, {Name: "a", Files: six}}
	for what, y := range map[string]api.Set{
		"nothing":           {Name: "a"},
		"empty lists":       {Name: "a", Files: []api.Entry{}, Snaps: []api.Snap{{Name: "a", Files: []api.Entry{}}}},
		"the longest name":  {Name: "abcdefgh"},
		"as many files":     {Name: "9", Files: six},
		"as many snaps":     {Name: "9", Snaps: snaps},
		"as many of all":    {Name: "9", Files: six, Snaps: snaps},
		"digits go ahead":   {Name: "a", Files: []api.Entry{{Name: "9"}, {Name: "99"}, {Name: "a"}, {Name: "a0"}, {Name: "aa"}, {Name: "b"}}},
		"the set's own":     {Name: "a", Files: []api.Entry{{Name: "a"}}, Snaps: []api.Snap{{Name: "a", Files: []api.Entry{{Name: "a"}}}}},
		"one root, often":   {Name: "a", Files: []api.Entry{entry("a", x.Files[0].F), entry("b", x.Files[0].F)}},
		"one root, unalike": {Name: "a", Files: []api.Entry{entry("a", api.File{Root: 4, Size: 4}), entry("b", api.File{Root: 4, Size: 256})}},
	} {
		if e := set.Check(s, key, y); e != api.OK {
			t.Errorf("%s: error %d", what, e)
		}
	}
	for _, k := range []int{0, api.MaxKey} {
		if e := set.Check(s, k, api.Set{Name: "a", Files: six}); e != api.OK {
			t.Errorf("key %d: error %d", k, e)
		}
	}
	if e := set.Check(api.Store{}, key, api.Set{Name: "a", Files: six}); e != api.OK {
		t.Errorf("where there are no blocks: error %d", e)
	}
	if e := set.Check(s, key+1, x); e != api.ErrForm {
		t.Errorf("with another key: error %d", e)
	}
}

func TestHeld(t *testing.T) {
	s, x := nest(t, 40)
	if e := set.Held(s, x); e != api.OK {
		t.Errorf("just as often: error %d", e)
	}
	for _, root := range []int{x.Files[0].F.Root, x.Files[1].F.Root} {
		more, _ := store.Keep(s, root)
		if e := set.Held(more, x); e != api.OK {
			t.Errorf("%d once more: error %d", root, e)
		}
		less, _ := store.Drop(s, root)
		if e := set.Held(less, x); e != api.ErrHeld {
			t.Errorf("%d once less: error %d", root, e)
		}
	}
	of := func(l ...int) api.Set {
		x := api.Set{Files: make([]api.Entry, 1), Snaps: make([]api.Snap, len(l))}
		for i, root := range l {
			x.Snaps[i].Files = []api.Entry{{F: api.File{Root: root}}}
		}
		return x
	}
	// Held asks for nothing but the roots: neither for names, nor for how many there are, nor for what they are.
	for _, c := range []struct {
		roots []int
		want  api.Errno
	}{
		{nil, api.OK},
		{[]int{0, 0, 0, 0, 0, 0, 0, 0}, api.OK},
		{[]int{4, 4, 4, 4}, api.OK},
		{[]int{4, 4, 4, 4, 4}, api.ErrHeld},
		{[]int{1}, api.ErrHeld},  // the leaf, which only blocks hold
		{[]int{30}, api.ErrHeld}, // a free one
		{[]int{40}, api.ErrHeld},
		{[]int{41, -1, math.MaxInt, math.MinInt}, api.OK}, // none of its blocks
	} {
		if e := set.Held(s, of(c.roots...)); e != c.want {
			t.Errorf("of %v: error %d, want %d", c.roots, e, c.want)
		}
	}
	if e := set.Held(api.Store{}, of(1)); e != api.OK {
		t.Errorf("where there are no blocks: error %d", e)
	}
	for _, f := range faults() {
		s, x, k := s, x, key
		s.Blocks = slices.Clone(s.Blocks)
		x = api.Set{Files: slices.Clone(x.Files), Snaps: []api.Snap{{Files: make([]api.Entry, 9)}, {}, {Files: make([]api.Entry, 9)}}}
		f.turn(&s, &k, &x)
		if want := store.Check(s); want != api.OK {
			x = of(30, 4, 4, 4, 4, 4, 4)
			if e := set.Held(s, x); e != want {
				t.Errorf("%s: error %d, want %d", f.what, e, want)
			}
		}
	}
}

func fileOf(l []api.Entry, name string) (api.File, bool) {
	i := slices.IndexFunc(l, func(f api.Entry) bool { return f.Name == name })
	if i < 0 {
		return api.File{}, false
	}
	return l[i].F, true
}

func snapOf(l []api.Snap, name string) ([]api.Entry, bool) {
	i := slices.IndexFunc(l, func(snap api.Snap) bool { return snap.Name == name })
	if i < 0 {
		return nil, false
	}
	return l[i].Files, true
}

func isSize(n int) bool { return n >= 0 && n <= api.MaxSize }

// askError is what the document says is wrong with an ask of a right set, but for what its file's blocks say.
func askError(x api.Set, a api.Ask) api.Errno {
	_, there := fileOf(x.Files, a.File)
	_, thereTo := fileOf(x.Files, a.To)
	_, snap := snapOf(x.Snaps, a.To)
	noFile, noTo := when(!set.Name(a.File), api.ErrText), when(!set.Name(a.To), api.ErrText)
	noSuch, noSnap := when(!there, api.ErrWho), when(!snap, api.ErrWho)
	switch a.Kind {
	case api.Write:
		return firstOf(noFile, when(!isSize(a.At) || len(a.Bytes) > api.MaxSize, api.ErrRange),
			when(a.At+len(a.Bytes) > api.MaxSize, api.ErrFull), when(!there && len(x.Files) == api.MaxFiles, api.ErrMany))
	case api.Cut:
		return firstOf(noFile, noSuch, when(!isSize(a.N), api.ErrRange))
	case api.Remove:
		return noSuch
	case api.Rename:
		return firstOf(noSuch, noTo, when(thereTo, api.ErrTwice))
	case api.Snapshot:
		return firstOf(noTo, when(snap, api.ErrTwice), when(len(x.Snaps) == api.MaxSnaps, api.ErrMany))
	case api.Forget, api.Back:
		return firstOf(noTo, noSnap)
	}
	return api.ErrForm
}

// All that may be asked, right and wrong, each with all the other things that may be wrong.
func TestAsksInAllWays(t *testing.T) {
	s, three := nest(t, 40)
	six, fewer := three, three
	six.Files = tooMany(three.Files)[:api.MaxFiles]
	fewer.Snaps = three.Snaps[:2]
	fewer.Files = nil
	names := []string{"", "b", "d", "e", "f", "m", "q", "r", "zz3", "B", "b!", "abcdefghi"}
	numbers := []int{math.MinInt, -1, 0, 3, 250, api.MaxSize, api.MaxSize + 1, math.MaxInt}
	for _, x := range []api.Set{three, six, fewer, {Name: "y"}} {
		for _, kind := range []int{math.MinInt, -1, 0, 1, 2, 3, 4, 5, 6, 7, 8, 9, 10, 11, 12, 13, 14, math.MaxInt} {
			for _, name := range names {
				for _, to := range names {
					wantAsked(t, s, x, api.Ask{Kind: kind, File: name, To: to, N: 7})
				}
				for _, n := range numbers {
					for _, many := range []int{0, 1, 6, 7, api.MaxSize, api.MaxSize + 1} {
						// Noughts alone: where there is no root they need no room.
						wantAsked(t, s, x, api.Ask{Kind: kind, File: name, To: "e", At: n, N: n, Bytes: make([]byte, many)})
					}
				}
			}
		}
	}
}

func wantAsked(t *testing.T, s api.Store, x api.Set, a api.Ask) {
	t.Helper()
	got, y, e := set.Do(s, key, x, a)
	if want := askError(x, a); e != want {
		t.Errorf("%v of %v: error %d, want %d", a, x, e, want)
	}
	if e != api.OK {
		wantZero(t, fmt.Sprint(a), got, y)
		return
	}
	want, z := bySteps(t, s, x, a)
	if !alike(y, z) || !store.Same(got, want) {
		t.Errorf("%v of %v: %v, want %v; %v, want %v", a, x, y, z, got, want)
	}
}

// alike: are two sets alike, lists that are nil and such as are empty being so?
func alike(x, y api.Set) bool {
	return x.Name == y.Name && slices.Equal(x.Files, y.Files) && slices.EqualFunc(x.Snaps, y.Snaps, func(a, b api.Snap) bool {
		return a.Name == b.Name && slices.Equal(a.Files, b.Files)
	})
}

func without(l []api.Entry, name string) []api.Entry {
	return slices.DeleteFunc(slices.Clone(l), func(f api.Entry) bool { return f.Name == name })
}

func with(l []api.Entry, name string, f api.File) []api.Entry {
	l = append(without(l, name), entry(name, f))
	slices.SortFunc(l, func(a, b api.Entry) int { return strings.Compare(a.Name, b.Name) })
	return l
}

// bySteps is what the document tells of an ask that is no error, by the layers that it names.
func bySteps(t *testing.T, s api.Store, x api.Set, a api.Ask) (api.Store, api.Set) {
	t.Helper()
	x.Snaps = slices.Clone(x.Snaps)
	must := func(next api.Store, e api.Errno) {
		t.Helper()
		if s = next; e != api.OK {
			t.Fatalf("%v: error %d", a, e)
		}
	}
	less := func(l []api.Entry) {
		t.Helper()
		for _, f := range l {
			if f.F.Root != 0 {
				must(store.Drop(s, f.F.Root))
			}
		}
	}
	more := func(l []api.Entry) {
		t.Helper()
		for _, f := range l {
			if f.F.Root != 0 {
				must(store.Keep(s, f.F.Root))
			}
		}
	}
	f, _ := fileOf(x.Files, a.File)
	snap, _ := snapOf(x.Snaps, a.To)
	old := []api.Entry{entry("", f)}
	switch a.Kind {
	case api.Write:
		next, g, e := file.Write(s, key, f, a.At, a.Bytes)
		must(next, e)
		x.Files = with(x.Files, a.File, g)
		less(old)
	case api.Cut:
		next, g, e := file.Cut(s, key, f, a.N)
		must(next, e)
		x.Files = with(x.Files, a.File, g)
		less(old)
	case api.Remove:
		x.Files = without(x.Files, a.File)
		less(old)
	case api.Rename:
		x.Files = with(without(x.Files, a.File), a.To, f)
	case api.Snapshot:
		more(x.Files)
		x.Snaps = append(x.Snaps, api.Snap{Name: a.To, Files: x.Files})
		slices.SortFunc(x.Snaps, func(a, b api.Snap) int { return strings.Compare(a.Name, b.Name) })
	case api.Forget:
		x.Snaps = slices.DeleteFunc(x.Snaps, func(snap api.Snap) bool { return snap.Name == a.To })
		less(snap)
	case api.Back:
		more(snap)
		less(x.Files)
		x.Files = snap
	}
	return s, x
}

func do(t *testing.T, s api.Store, x api.Set, a api.Ask) (api.Store, api.Set) {
	t.Helper()
	s, x, e := set.Do(s, key, x, a)
	if e != api.OK {
		t.Fatalf("%v: error %d", a, e)
	}
	return s, x
}

// told tells a set's files: names, roots and sizes.
func told(l []api.Entry) string {
	out := ""
	for _, f := range l {
		out += fmt.Sprintf("%s %d %d;", f.Name, f.F.Root, f.F.Size)
	}
	return out
}

// used tells which blocks are there.
func used(s api.Store) string {
	var l []int
	for i, b := range s.Blocks {
		if b.Refs > 0 {
			l = append(l, i+1)
		}
	}
	return fmt.Sprint(l)
}

// What each ask leaves, name by name and block by block.
func TestDo(t *testing.T) {
	s, x := nest(t, 40)
	if told(x.Files) != "b 4 4;d 8 7;f 0 9;" || used(s) != "[1 2 3 4 5 6 7 8]" || fmt.Sprint(s.Blocks[3].Refs, s.Blocks[7].Refs) != "4 2" {
		t.Fatalf("another nest: %v, %v", x, s)
	}
	all := "[1 2 3 4 5 6 7 8]"
	for _, c := range []struct {
		what  string
		a     api.Ask
		files string
		used  string
		refs  string // of the blocks 4 and 8
	}{
		{"a byte", api.Ask{Kind: api.Write, File: "b", At: 1, Bytes: []byte("x")}, "b 12 4;d 8 7;f 0 9;", "[1 2 3 4 5 6 7 8 9 10 11 12]", "3 2"},
		{"two leaves", api.Ask{Kind: api.Write, File: "b", At: 3, Bytes: []byte("xy")}, "b 16 5;d 8 7;f 0 9;", "[1 2 3 4 5 6 7 8 9 13 14 15 16]", "3 2"},
		{"no bytes", api.Ask{Kind: api.Write, File: "b", At: 200}, "b 4 4;d 8 7;f 0 9;", all, "4 2"},
		{"what was there", api.Ask{Kind: api.Write, File: "b", Bytes: []byte("one")}, "b 4 4;d 8 7;f 0 9;", all, "4 2"},
		{"noughts", api.Ask{Kind: api.Write, File: "b", Bytes: make([]byte, 4)}, "b 0 4;d 8 7;f 0 9;", all, "3 2"},
		{"noughts behind the end", api.Ask{Kind: api.Write, File: "b", At: 8, Bytes: []byte{0}}, "b 4 9;d 8 7;f 0 9;", all, "4 2"},
		{"where there was no root", api.Ask{Kind: api.Write, File: "f", At: 2, Bytes: []byte("x")}, "b 4 4;d 8 7;f 12 9;", "[1 2 3 4 5 6 7 8 9 10 11 12]", "4 2"},
		{"the first file", api.Ask{Kind: api.Write, File: "a", Bytes: []byte("x")}, "a 12 1;b 4 4;d 8 7;f 0 9;", "[1 2 3 4 5 6 7 8 9 10 11 12]", "4 2"},
		{"a file between", api.Ask{Kind: api.Write, File: "c", Bytes: []byte("x")}, "b 4 4;c 12 1;d 8 7;f 0 9;", "[1 2 3 4 5 6 7 8 9 10 11 12]", "4 2"},
		{"the last file", api.Ask{Kind: api.Write, File: "fa", Bytes: []byte("x")}, "b 4 4;d 8 7;f 0 9;fa 12 1;", "[1 2 3 4 5 6 7 8 9 10 11 12]", "4 2"},
		{"a file of no bytes", api.Ask{Kind: api.Write, File: "9", At: 256}, "9 0 0;b 4 4;d 8 7;f 0 9;", all, "4 2"},
		{"a file of noughts", api.Ask{Kind: api.Write, File: "9", At: 2, Bytes: []byte{0}}, "9 0 3;b 4 4;d 8 7;f 0 9;", all, "4 2"},
		{"what another file has", api.Ask{Kind: api.Write, File: "e", Bytes: []byte("one!")}, "b 4 4;d 8 7;e 12 4;f 0 9;", "[1 2 3 4 5 6 7 8 9 10 11 12]", "4 2"},

		{"cut to the same size", api.Ask{Kind: api.Cut, File: "d", N: 7}, "b 4 4;d 8 7;f 0 9;", all, "4 2"},
		{"cut to nothing", api.Ask{Kind: api.Cut, File: "d"}, "b 4 4;d 0 0;f 0 9;", all, "4 1"},
		{"cut to more", api.Ask{Kind: api.Cut, File: "d", N: 256}, "b 4 4;d 8 256;f 0 9;", all, "4 2"},
		{"cut within a leaf", api.Ask{Kind: api.Cut, File: "d", N: 3}, "b 4 4;d 15 3;f 0 9;", "[1 2 3 4 5 6 7 8 9 13 14 15]", "4 1"},
		{"cut of noughts", api.Ask{Kind: api.Cut, File: "f", N: 2}, "b 4 4;d 8 7;f 0 2;", all, "4 2"},

		{"remove the first", api.Ask{Kind: api.Remove, File: "b"}, "d 8 7;f 0 9;", all, "3 2"},
		{"remove one between", api.Ask{Kind: api.Remove, File: "d"}, "b 4 4;f 0 9;", all, "4 1"},
		{"remove the last", api.Ask{Kind: api.Remove, File: "f"}, "b 4 4;d 8 7;", all, "4 2"},

		{"rename in its place", api.Ask{Kind: api.Rename, File: "b", To: "c"}, "c 4 4;d 8 7;f 0 9;", all, "4 2"},
		{"rename to behind the next", api.Ask{Kind: api.Rename, File: "b", To: "e"}, "d 8 7;e 4 4;f 0 9;", all, "4 2"},
		{"rename to the end", api.Ask{Kind: api.Rename, File: "b", To: "g"}, "d 8 7;f 0 9;g 4 4;", all, "4 2"},
		{"rename to the beginning", api.Ask{Kind: api.Rename, File: "f", To: "0"}, "0 0 9;b 4 4;d 8 7;", all, "4 2"},
		{"rename to ahead of the one ahead", api.Ask{Kind: api.Rename, File: "f", To: "c"}, "b 4 4;c 0 9;d 8 7;", all, "4 2"},

		{"forget files that others have", api.Ask{Kind: api.Forget, To: "m"}, "b 4 4;d 8 7;f 0 9;", all, "2 1"},
		{"forget nothing", api.Ask{Kind: api.Forget, To: "p"}, "b 4 4;d 8 7;f 0 9;", all, "4 2"},
		{"forget the last", api.Ask{Kind: api.Forget, To: "r"}, "b 4 4;d 8 7;f 0 9;", all, "3 2"},

		{"back to the same roots", api.Ask{Kind: api.Back, To: "m"}, "b 4 4;c 4 4;d 8 7;", all, "5 2"},
		{"back to nothing", api.Ask{Kind: api.Back, To: "p"}, "", all, "3 1"},
		{"back to fewer", api.Ask{Kind: api.Back, To: "r"}, "a 4 4;z 0 0;", all, "4 1"},
	} {
		got, y := do(t, s, x, c.a)
		if told(y.Files) != c.files || used(got) != c.used || fmt.Sprint(got.Blocks[3].Refs, got.Blocks[7].Refs) != c.refs {
			t.Errorf("%s: %s, %s there, %d %d, want %s, %s, %s",
				c.what, told(y.Files), used(got), got.Blocks[3].Refs, got.Blocks[7].Refs, c.files, c.used, c.refs)
		}
		wantHeld(t, c.what, got, y)
		want, z := bySteps(t, s, x, c.a)
		if !alike(y, z) || !store.Same(got, want) {
			t.Errorf("%s: %v, %v, want %v, %v", c.what, y, got, z, want)
		}
		if c.a.Kind != api.Forget && !reflect.DeepEqual(y.Snaps, x.Snaps) {
			t.Errorf("%s: snaps %v, were %v", c.what, y.Snaps, x.Snaps)
		}
	}
}

// What nobody has any more is free; what a snap has stays.
func TestWhatIsFree(t *testing.T) {
	s, _ := store.New(40)
	x := api.Set{Name: "x"}
	step := func(a api.Ask, want string) {
		t.Helper()
		s, x = do(t, s, x, a)
		if got := used(s); got != want {
			t.Errorf("%v: %s are there, want %s", a, got, want)
		}
		wantHeld(t, fmt.Sprint(a), s, x)
	}
	text := func(name, b string) api.Ask { return api.Ask{Kind: api.Write, File: name, Bytes: []byte(b)} }
	to := func(kind int, name string) api.Ask { return api.Ask{Kind: kind, To: name} }
	step(text("f", "one"), "[1 2 3 4]")
	step(text("f", "two"), "[5 6 7 8]")
	step(text("f", "one"), "[1 2 3 4]")
	step(to(api.Snapshot, "s"), "[1 2 3 4]")
	step(text("f", "two"), "[1 2 3 4 5 6 7 8]")
	step(to(api.Snapshot, "t"), "[1 2 3 4 5 6 7 8]")
	step(to(api.Snapshot, "a"), "[1 2 3 4 5 6 7 8]")
	step(api.Ask{Kind: api.Cut, File: "f", N: 1}, "[1 2 3 4 5 6 7 8 9 10 11 12]")
	step(to(api.Back, "t"), "[1 2 3 4 5 6 7 8]")
	step(to(api.Forget, "t"), "[1 2 3 4 5 6 7 8]")
	step(api.Ask{Kind: api.Remove, File: "f"}, "[1 2 3 4 5 6 7 8]")
	step(to(api.Forget, "a"), "[1 2 3 4]")
	step(text("g", "g"), "[1 2 3 4 5 6 7 8]")
	step(to(api.Back, "s"), "[1 2 3 4]")
	step(to(api.Forget, "s"), "[1 2 3 4]")
	step(api.Ask{Kind: api.Rename, File: "f", To: "h"}, "[1 2 3 4]")
	step(to(api.Snapshot, "s"), "[1 2 3 4]")
	step(api.Ask{Kind: api.Write, File: "h", Bytes: make([]byte, 3)}, "[1 2 3 4]")
	step(to(api.Forget, "s"), "[]")
}

// A snap takes its place among the others by its name, and has all files, or none.
func TestSnapshot(t *testing.T) {
	s, x := nest(t, 40)
	x.Snaps = x.Snaps[:0:0]
	for _, c := range []struct{ to, want string }{{"m", "m"}, {"z", "m z"}, {"a", "a m z"}} {
		s, x = do(t, s, x, api.Ask{Kind: api.Snapshot, To: c.to})
		var names []string
		for _, snap := range x.Snaps {
			names = append(names, snap.Name)
			if told(snap.Files) != "b 4 4;d 8 7;f 0 9;" {
				t.Errorf("%s has %v", snap.Name, snap.Files)
			}
		}
		if got := strings.Join(names, " "); got != c.want {
			t.Errorf("%s: %s, want %s", c.to, got, c.want)
		}
	}
	if fmt.Sprint(s.Blocks[3].Refs, s.Blocks[7].Refs) != "7 5" {
		t.Errorf("held %d, %d", s.Blocks[3].Refs, s.Blocks[7].Refs)
	}
	got, y, e := set.Do(s, key, x, api.Ask{Kind: api.Snapshot, To: "b"})
	wantError(t, "one more", e, api.ErrMany, got, y)
	got, y, e = set.Do(s, key, x, api.Ask{Kind: api.Snapshot, To: "m"})
	wantError(t, "the same once more", e, api.ErrTwice, got, y)

	s, _ = store.New(0)
	s, x = do(t, s, api.Set{Name: "x"}, api.Ask{Kind: api.Snapshot, To: "b"})
	if len(x.Snaps) != 1 || x.Snaps[0].Name != "b" || len(x.Snaps[0].Files) != 0 {
		t.Errorf("of no files: %v", x)
	}
	wantHeld(t, "of no files", s, x)
}

// The examples of the document: a whole file has 85 blocks; who snaps it and writes one byte uses four more.
func TestOneByteBehindASnap(t *testing.T) {
	s, _ := store.New(api.MaxBlocks)
	full := bytes.Repeat([]byte("x"), api.MaxSize)
	s, x := do(t, s, api.Set{Name: "x"}, api.Ask{Kind: api.Write, File: "f", Bytes: full})
	if n, _ := store.Used(s); n != 85 {
		t.Errorf("%d blocks", n)
	}
	s, x = do(t, s, x, api.Ask{Kind: api.Snapshot, To: "s"})
	s, x = do(t, s, x, api.Ask{Kind: api.Write, File: "f", At: 99, Bytes: []byte("y")})
	if n, _ := store.Used(s); n != 89 {
		t.Errorf("%d blocks, one byte behind", n)
	}
	s, x = do(t, s, x, api.Ask{Kind: api.Back, To: "s"})
	if n, _ := store.Used(s); n != 85 {
		t.Errorf("%d blocks, back", n)
	}
	wantHeld(t, "back", s, x)
}

// A new file where there are as many as may be: what chapter 4 says is told first.
func TestTooManyFiles(t *testing.T) {
	s, x := nest(t, 12)
	x.Files = tooMany(x.Files)[:api.MaxFiles]
	for _, c := range []struct {
		what string
		a    api.Ask
		want api.Errno
	}{
		{"no bytes", api.Ask{File: "a"}, api.ErrMany},
		{"as many as there is room for", api.Ask{File: "a", Bytes: []byte("x")}, api.ErrMany},
		{"more than there is room for", api.Ask{File: "a", Bytes: []byte("xxxxx")}, api.ErrFull},
		{"at too great", api.Ask{File: "a", At: 257}, api.ErrRange},
		{"too far", api.Ask{File: "a", At: 256, Bytes: []byte("x")}, api.ErrFull},
		{"no name", api.Ask{File: "a.", At: 257}, api.ErrText},
		{"one that is there", api.Ask{File: "b", Bytes: []byte("x")}, api.OK},
	} {
		c.a.Kind = api.Write
		got, y, e := set.Do(s, key, x, c.a)
		wantError(t, c.what, e, c.want, got, y)
	}
}

// Of what a Write or Cut needs, some blocks are free, but not all: the error alone; with just as many it is done.
func TestLastFreeBlocks(t *testing.T) {
	for _, c := range []struct {
		what  string
		a     api.Ask
		needs int
	}{
		{"a byte", api.Ask{Kind: api.Write, File: "b", Bytes: []byte("x")}, 4},
		{"two leaves", api.Ask{Kind: api.Write, File: "b", Bytes: []byte("xxxxx")}, 8},
		{"three leaves", api.Ask{Kind: api.Write, File: "d", Bytes: []byte("xxxxxxxxx")}, 9},
		{"a new file", api.Ask{Kind: api.Write, File: "c", Bytes: []byte("xxxxx")}, 8},
		{"no bytes", api.Ask{Kind: api.Write, File: "c"}, 0},
		{"a cut within a leaf", api.Ask{Kind: api.Cut, File: "d", N: 5}, 4},
		{"a cut of a leaf", api.Ask{Kind: api.Cut, File: "d", N: 4}, 3},
		{"a cut of all", api.Ask{Kind: api.Cut, File: "d", N: 0}, 3},
		{"a remove", api.Ask{Kind: api.Remove, File: "d"}, 0},
		{"a rename", api.Ask{Kind: api.Rename, File: "d", To: "e"}, 0},
		{"a back", api.Ask{Kind: api.Back, To: "m"}, 0},
		{"a forget", api.Ask{Kind: api.Forget, To: "m"}, 0},
	} {
		for n := range c.needs + 3 {
			s, x := nest(t, 40)
			s.Blocks = s.Blocks[:8+n]
			ahead := whole(s, x)
			got, y, e := set.Do(s, key, x, c.a)
			wantError(t, fmt.Sprint(c.what, ", free: ", n), e, when(n < c.needs, api.ErrFull), got, y)
			if whole(s, x) != ahead {
				t.Errorf("%s, %d free: what was handed in has changed", c.what, n)
			}
			if e == api.OK {
				wantHeld(t, c.what, got, y)
			}
		}
	}
}

// What is held once more may go above MaxRefs, more than once, and then there is no right store any more; on the way to
// less it may be there, too.
func TestRootThatIsHeldMost(t *testing.T) {
	s, x := nest(t, 40)
	s.Blocks[3].Refs = api.MaxRefs
	x.Snaps = x.Snaps[:1]
	x.Files = []api.Entry{x.Files[0], entry("c", x.Files[0].F)}
	for _, c := range []struct {
		a    api.Ask
		want int
	}{
		{api.Ask{Kind: api.Snapshot, To: "q"}, api.MaxRefs + 2},
		{api.Ask{Kind: api.Back, To: "m"}, api.MaxRefs},
		{api.Ask{Kind: api.Forget, To: "m"}, api.MaxRefs - 2},
		{api.Ask{Kind: api.Remove, File: "b"}, api.MaxRefs - 1},
		{api.Ask{Kind: api.Rename, File: "b", To: "a"}, api.MaxRefs},
		{api.Ask{Kind: api.Write, File: "b"}, api.MaxRefs},
		{api.Ask{Kind: api.Cut, File: "b", N: 9}, api.MaxRefs},
	} {
		got, y, e := set.Do(s, key, x, c.a)
		if e != api.OK || got.Blocks[3].Refs != c.want || store.Check(got) != when(c.want > api.MaxRefs, api.ErrRange) {
			t.Errorf("%v: error %d, %v, %v, want %d", c.a, e, y, got, c.want)
		}
	}
	got, y, e := set.Clone(s, key, x, "m", "y")
	if e != api.OK || got.Blocks[3].Refs != api.MaxRefs+2 {
		t.Errorf("Clone: error %d, %v, %v", e, y, got)
	}
	got, e = set.Destroy(s, key, x)
	if e != api.OK || got.Blocks[3].Refs != api.MaxRefs-4 {
		t.Errorf("Destroy: error %d, %v", e, got)
	}
	// Chapter 4's own error: its Put doesn't take what its Keep left.
	got, y, e = set.Do(s, key, x, api.Ask{Kind: api.Write, File: "b", Bytes: []byte("x")})
	wantError(t, "Write", e, api.ErrRange, got, y)
	got, y, e = set.Do(s, key, x, api.Ask{Kind: api.Cut, File: "b", N: 2})
	wantError(t, "Cut", e, api.ErrRange, got, y)
}

func TestClone(t *testing.T) {
	s, x := nest(t, 40)
	for _, c := range []struct {
		from, files, refs string
	}{{"m", "b 4 4;c 4 4;d 8 7;", "6 3"}, {"p", "", "4 2"}, {"r", "a 4 4;z 0 0;", "5 2"}} {
		for _, name := range []string{"x", "y", "m", "abcdefgh"} {
			got, y, e := set.Clone(s, key, x, c.from, name)
			if e != api.OK || y.Name != name || told(y.Files) != c.files || len(y.Snaps) != 0 {
				t.Fatalf("of %s: error %d, %v", c.from, e, y)
			}
			if refs := fmt.Sprint(got.Blocks[3].Refs, got.Blocks[7].Refs); refs != c.refs {
				t.Errorf("of %s: held %s, want %s", c.from, refs, c.refs)
			}
			wantHeld(t, "Clone", got, x, y)
			if ahead, e := set.Destroy(got, key, y); e != api.OK || !store.Same(ahead, s) {
				t.Errorf("of %s: Destroy: error %d, %v, want %v", c.from, e, ahead, s)
			}
			// What is done to one is not seen in the other one.
			if len(y.Files) > 0 {
				s, y := do(t, got, y, api.Ask{Kind: api.Write, File: y.Files[0].Name, Bytes: []byte("else")})
				wantHeld(t, "Write to a clone", s, x, y)
				wantRead(t, s, x, "b", "one!")
			}
		}
	}
	for _, c := range []struct {
		from, name string
		want       api.Errno
	}{
		{"m", "", api.ErrText}, {"m", "Y", api.ErrText}, {"m", "abcdefghi", api.ErrText}, {"n", "y.", api.ErrText},
		{"n", "y", api.ErrWho}, {"", "y", api.ErrWho}, {"M", "y", api.ErrWho}, {"b", "y", api.ErrWho}, {"x", "y", api.ErrWho},
	} {
		got, y, e := set.Clone(s, key, x, c.from, c.name)
		wantError(t, c.from+" "+c.name, e, c.want, got, y)
	}
}

func wantRead(t *testing.T, s api.Store, x api.Set, name, want string) {
	t.Helper()
	answer, e := set.Look(s, key, x, api.Ask{Kind: api.Read, File: name, N: api.MaxSize})
	if e != api.OK || answer.E != api.OK || answer.N != len(want) || string(answer.Bytes) != want || len(answer.Names) != 0 {
		t.Fatalf("%s of %v: %v, error %d, want %q", name, x, answer, e, want)
	}
}

func TestDestroy(t *testing.T) {
	s, x := nest(t, 40)
	empty, _ := store.New(40)
	if got, e := set.Destroy(s, key, x); e != api.OK || !store.Same(got, empty) {
		t.Errorf("with snaps: error %d, %v", e, got)
	}
	more, _ := store.Keep(s, x.Files[1].F.Root)
	got, e := set.Destroy(more, key, x)
	if e != api.OK || used(got) != "[1 5 6 7 8]" || got.Blocks[7].Refs != 1 {
		t.Errorf("what another one has: error %d, %v", e, got)
	}
	y := api.Set{Name: "y", Files: x.Files[:1]}
	if got, e = set.Destroy(s, key, y); e != api.OK || used(got) != used(s) || got.Blocks[3].Refs != 3 {
		t.Errorf("without snaps: error %d, %v", e, got)
	}
	if got, e = set.Destroy(s, key, api.Set{Name: "y"}); e != api.OK || !store.Same(got, s) {
		t.Errorf("of nothing: error %d, %v", e, got)
	}
	if got, e = set.Destroy(api.Store{}, key, api.Set{Name: "y", Files: tooMany(nil)[:6]}); e != api.OK || len(got.Blocks) != 0 {
		t.Errorf("of no blocks: error %d, %v", e, got)
	}
}

func TestLook(t *testing.T) {
	s, x := nest(t, 40)
	for _, c := range []struct {
		a    api.Ask
		want api.Answer
		e    api.Errno
	}{
		{api.Ask{Kind: api.Read, File: "b", N: 256}, api.Answer{N: 4, Bytes: []byte("one!")}, api.OK},
		{api.Ask{Kind: api.Read, File: "d", N: 256}, api.Answer{N: 7, Bytes: []byte("one!two")}, api.OK},
		{api.Ask{Kind: api.Read, File: "d", At: 2, N: 3}, api.Answer{N: 7, Bytes: []byte("e!t")}, api.OK},
		{api.Ask{Kind: api.Read, File: "d", At: 6, N: 3}, api.Answer{N: 7, Bytes: []byte("o")}, api.OK},
		{api.Ask{Kind: api.Read, File: "d", At: 7, N: 3}, api.Answer{N: 7}, api.OK},
		{api.Ask{Kind: api.Read, File: "d", At: 256, N: 256}, api.Answer{N: 7}, api.OK},
		{api.Ask{Kind: api.Read, File: "d"}, api.Answer{N: 7}, api.OK},
		{api.Ask{Kind: api.Read, File: "f", N: 256}, api.Answer{N: 9, Bytes: make([]byte, 9)}, api.OK},
		{api.Ask{Kind: api.Read, File: "c", At: -1}, api.Answer{E: api.ErrWho}, api.OK},
		{api.Ask{Kind: api.Read, File: "a"}, api.Answer{E: api.ErrWho}, api.OK},
		{api.Ask{Kind: api.Read, File: "m"}, api.Answer{E: api.ErrWho}, api.OK},
		{api.Ask{Kind: api.Read, File: "z"}, api.Answer{E: api.ErrWho}, api.OK},
		{api.Ask{Kind: api.Read, File: "", To: "b"}, api.Answer{E: api.ErrWho}, api.OK},
		{api.Ask{Kind: api.Read, File: "B"}, api.Answer{E: api.ErrWho}, api.OK},
		{api.Ask{Kind: api.Read, File: "b", At: -1}, api.Answer{E: api.ErrRange}, api.OK},
		{api.Ask{Kind: api.Read, File: "b", At: 257}, api.Answer{E: api.ErrRange}, api.OK},
		{api.Ask{Kind: api.Read, File: "b", N: -1}, api.Answer{E: api.ErrRange}, api.OK},
		{api.Ask{Kind: api.Read, File: "b", N: 257}, api.Answer{E: api.ErrRange}, api.OK},
		{api.Ask{Kind: api.Read, File: "f", At: math.MaxInt, N: math.MinInt}, api.Answer{E: api.ErrRange}, api.OK},
		{api.Ask{Kind: api.List}, api.Answer{N: 3, Names: []string{"b", "d", "f"}}, api.OK},
		{api.Ask{Kind: api.List, File: "?", At: -1, N: -1}, api.Answer{N: 3, Names: []string{"b", "d", "f"}}, api.OK},
	} {
		wantLook(t, s, x, c.a, c.want, c.e)
	}
	for _, kind := range []int{math.MinInt, -1, 0, 1, 2, 3, 4, 5, 6, 7, 8, 9, 10, 13, 14, math.MaxInt} {
		wantLook(t, s, x, api.Ask{Kind: kind, File: "b", N: 9}, api.Answer{}, api.ErrForm)
		wantLook(t, s, x, api.Ask{Kind: kind, File: "none", N: -1}, api.Answer{}, api.ErrForm)
	}
	wantLook(t, s, api.Set{Name: "y"}, api.Ask{Kind: api.List}, api.Answer{}, api.OK)
	// Look doesn't ask whether what x has is held for it.
	s.Blocks[3].Refs = 1
	wantLook(t, s, x, api.Ask{Kind: api.List}, api.Answer{N: 3, Names: []string{"b", "d", "f"}}, api.OK)
	wantLook(t, s, x, api.Ask{Kind: api.Read, File: "b", N: 1}, api.Answer{N: 4, Bytes: []byte("o")}, api.OK)
}

func wantLook(t *testing.T, s api.Store, x api.Set, a api.Ask, want api.Answer, wantE api.Errno) {
	t.Helper()
	got, e := set.Look(s, key, x, a)
	if e != wantE || got.E != want.E || got.N != want.N || !slices.Equal(got.Names, want.Names) || !bytes.Equal(got.Bytes, want.Bytes) {
		t.Errorf("%v: %v, error %d, want %v, %d", a, got, e, want, wantE)
	}
	if e != api.OK {
		wantZero(t, fmt.Sprint(a), got)
	}
	if e == api.OK && got.E != api.OK {
		wantZero(t, fmt.Sprint(a), got.Names, got.Bytes)
	}
}

// model is what a set must be: bytes by names, and by names of snaps.
type model struct {
	files map[string]string
	snaps map[string]map[string]string
}

func wantModel(t *testing.T, what string, s api.Store, x api.Set, m model) {
	t.Helper()
	wantFiles := func(what string, y api.Set, files map[string]string) {
		t.Helper()
		l, e := set.Look(s, key, y, api.Ask{Kind: api.List})
		if want := slices.Sorted(maps.Keys(files)); e != api.OK || !slices.Equal(l.Names, want) {
			t.Fatalf("%s: %v, error %d, want %v", what, l, e, want)
		}
		for name, b := range files {
			wantRead(t, s, y, name, b)
		}
	}
	wantFiles(what, x, m.files)
	if len(x.Snaps) != len(m.snaps) {
		t.Fatalf("%s: %d snaps, want %d", what, len(x.Snaps), len(m.snaps))
	}
	for _, snap := range x.Snaps {
		wantFiles(what+", snap "+snap.Name, api.Set{Name: "y", Files: snap.Files}, m.snaps[snap.Name])
	}
}

func someAsk(r *rand.Rand) api.Ask {
	pick := func(l ...string) string { return l[r.Intn(len(l))] }
	a := api.Ask{
		Kind: []int{api.Write, api.Write, api.Write, api.Write, api.Cut, api.Remove, api.Rename, api.Snapshot, api.Forget, api.Back}[r.Intn(10)],
		File: pick("a", "b", "c", "d", "e", "f", "g", "0"), To: pick("a", "c", "d", "m", "z"),
		At: r.Intn(40), N: r.Intn(40), Bytes: make([]byte, r.Intn(20)),
	}
	if r.Intn(10) == 0 {
		a.At, a.N = r.Intn(api.MaxSize+3)-1, r.Intn(api.MaxSize+3)-1
	}
	for i := range a.Bytes {
		a.Bytes[i] = []byte{0, 0, 'x', 'y'}[r.Intn(4)]
	}
	return a
}

// modelled does to m what a asks, if that is no error.
func modelled(m model, a api.Ask) {
	switch a.Kind {
	case api.Write:
		b, _ := file.Over([]byte(m.files[a.File]), a.At, a.Bytes)
		m.files[a.File] = string(b)
	case api.Cut:
		m.files[a.File] = (m.files[a.File] + string(make([]byte, api.MaxSize)))[:a.N]
	case api.Remove:
		delete(m.files, a.File)
	case api.Rename:
		m.files[a.To] = m.files[a.File]
		delete(m.files, a.File)
	case api.Snapshot:
		m.snaps[a.To] = maps.Clone(m.files)
	case api.Forget:
		delete(m.snaps, a.To)
	case api.Back:
		clear(m.files)
		maps.Copy(m.files, m.snaps[a.To])
	}
}

// Many asks, one behind the other, of a set in a store that it has for itself, or shares with a clone: the files and all
// snaps are what they must be, and every block is held as often as somebody has it.
func TestManyAsks(t *testing.T) {
	kinds := map[int]int{}
	for seed := range int64(40) {
		r := rand.New(rand.NewSource(seed))
		s, _ := store.New(20 + r.Intn(200))
		x, other := api.Set{Name: "x"}, api.Set{Name: "y"}
		m := model{map[string]string{}, map[string]map[string]string{}}
		for n := range 80 {
			a := someAsk(r)
			what := fmt.Sprintf("seed %d, %d: %v", seed, n, a)
			got, y, e := set.Do(s, key, x, a)
			if want := askError(x, a); e != want && (want != api.OK && want != api.ErrMany || e != api.ErrFull) {
				t.Fatalf("%s: error %d, want %d", what, e, want)
			}
			if e == api.OK {
				want, z := bySteps(t, s, x, a)
				if !alike(y, z) || !store.Same(got, want) {
					t.Fatalf("%s: %v, want %v", what, y, z)
				}
				s, x = got, y
				modelled(m, a)
				kinds[a.Kind]++
			}
			if n%20 == 10 && len(x.Snaps) > 0 {
				s, _ = set.Destroy(s, key, other)
				s, other, _ = set.Clone(s, key, x, x.Snaps[0].Name, "y")
			}
			wantModel(t, what, s, x, m)
			wantHeld(t, what, s, x, other)
		}
		s, _ = set.Destroy(s, key, x)
		wantHeld(t, "the clone alone", s, other)
		s, _ = set.Destroy(s, key, other)
		if n, _ := store.Used(s); n != 0 {
			t.Errorf("seed %d: %d blocks are left", seed, n)
		}
	}
	for kind := api.Write; kind <= api.Back; kind++ {
		if kinds[kind] < 20 {
			t.Errorf("kind %d was done %d times only", kind, kinds[kind])
		}
	}
}

// lists are the lists of a store and of a set, whole: with their spare room.
func lists(s api.Store, x api.Set) []reflect.Value {
	l := []reflect.Value{reflect.ValueOf(s.Blocks), reflect.ValueOf(x.Files), reflect.ValueOf(x.Snaps)}
	for _, b := range s.Blocks {
		l = append(l, reflect.ValueOf(b.Kids), reflect.ValueOf(b.Bytes))
	}
	for _, snap := range x.Snaps {
		l = append(l, reflect.ValueOf(snap.Files))
	}
	return l
}

func overlap(x, y reflect.Value) bool {
	size := func(v reflect.Value) uintptr { return uintptr(v.Cap()) * v.Type().Elem().Size() }
	return size(x) > 0 && size(y) > 0 && x.Pointer() < y.Pointer()+size(y) && y.Pointer() < x.Pointer()+size(x)
}

func wantApart(t *testing.T, what string, in, out []reflect.Value) {
	t.Helper()
	for i, x := range out {
		for _, y := range slices.Concat(in, out[i+1:]) {
			if overlap(x, y) {
				t.Fatalf("%s: lists share memory", what)
			}
		}
	}
}

// whole tells all of a store and of a set, with the spare room of their lists.
func whole(s api.Store, x api.Set) string {
	told := fmt.Sprint(x.Name, len(s.Blocks), s.Blocks[:cap(s.Blocks)], len(x.Files), x.Files[:cap(x.Files)], len(x.Snaps), x.Snaps[:cap(x.Snaps)])
	for _, b := range s.Blocks {
		told += fmt.Sprint(b.Kids[:cap(b.Kids)], b.Bytes[:cap(b.Bytes)])
	}
	for _, snap := range x.Snaps {
		told += fmt.Sprint(len(snap.Files), snap.Files[:cap(snap.Files)])
	}
	return told
}

// roomy gives all lists of a set spare room, with something in it.
func roomy(l []api.Entry) []api.Entry {
	out := append(make([]api.Entry, 0, 20), l...)
	for i := range out[len(out):cap(out)] {
		out[len(l):cap(out)][i] = entry("spare", api.File{Root: i, Size: 1})
	}
	return out
}

func TestArgumentsAreOnlyRead(t *testing.T) {
	s, x := nest(t, 40)
	s.Blocks = append(make([]api.Block, 0, 300), s.Blocks...)
	x.Files = roomy(x.Files)
	x.Snaps = append(make([]api.Snap, 0, 9), x.Snaps...)
	for i := range x.Snaps {
		x.Snaps[i].Files = roomy(x.Snaps[i].Files)
	}
	fewer := x
	fewer.Snaps = append(make([]api.Snap, 0, 9), x.Snaps[:2]...)
	b := append(make([]byte, 0, 40), "xxxxyyy\x00\x00\x00\x00"...)
	for _, x := range []api.Set{x, fewer} {
		ahead := whole(s, x) + fmt.Sprint(b[:40])
		in := append(lists(s, x), reflect.ValueOf(b))
		for kind := range api.Uses + 1 {
			for _, name := range []string{"a", "b", "d", "f", "m", "p", "q", "z", ""} {
				for _, n := range []int{0, 3, 9, 256, 300} {
					a := api.Ask{Kind: kind, File: name, To: name, At: n, N: n, Bytes: b}
					if kind == api.Rename {
						a.File = "d"
					}
					if got, y, e := set.Do(s, key, x, a); e == api.OK {
						wantApart(t, fmt.Sprint(a), in, lists(got, y))
					}
					answer, _ := set.Look(s, key, x, a)
					wantApart(t, fmt.Sprint(a), in, []reflect.Value{reflect.ValueOf(answer.Names), reflect.ValueOf(answer.Bytes)})
				}
				if got, y, e := set.Clone(s, key, x, name, "y"); e == api.OK {
					wantApart(t, "Clone", in, lists(got, y))
				}
			}
		}
		if got, e := set.Destroy(s, key, x); e == api.OK {
			wantApart(t, "Destroy", in, lists(got, api.Set{}))
		}
		set.Check(s, key, x)
		set.Held(s, x)
		if now := whole(s, x) + fmt.Sprint(b[:40]); now != ahead {
			t.Errorf("what was handed in was changed: %s, was %s", now, ahead)
		}
	}
}
