package file_test

import (
	"bytes"
	"fmt"
	"math"
	"math/rand"
	"reflect"
	"slices"
	"testing"

	"rookery/api"
	"rookery/file"
	"rookery/seal"
	"rookery/store"
	"rookery/tree"
)

const key = 7

const places = api.MaxSize / api.Leaf

func leaf(refs int, b ...byte) api.Block {
	return api.Block{Refs: refs, Bytes: append(make([]byte, 0, 9), b...)}
}

func above(refs, level int, kids ...int) api.Block {
	return api.Block{Refs: refs, Level: level, Kids: append(make([]int, 0, 9), kids...)}
}

func of(l ...api.Block) api.Store { return api.Store{Blocks: l} }

func free(n int) []api.Block { return make([]api.Block, n) }

// sealed is what must stand in the leaf at place i, if b is there.
func sealed(key, i int, b []byte) []byte {
	out, _ := seal.Seal(key, i, b)
	return out
}

// nest is a right store of files of the key 7: 5 has "\0\0abc", 10 shares it and ends with a z; 14 has a leaf that is four
// noughts, which no file may have; 6 is free, and so are eight more at the end.
func nest() api.Store {
	return of(append([]api.Block{
		leaf(1, 189, 150, 116, 25),
		leaf(1, 32, 112, 235, 225),
		above(1, 1, 1, 2, 0, 0),
		above(2, 2, 3, 0, 0, 0),
		above(1, 3, 4, 0, 0, 0),
		{},
		leaf(1, sealed(key, 63, []byte("\x00\x00\x00z"))...),
		above(1, 1, 0, 0, 0, 7),
		above(1, 2, 0, 0, 0, 8),
		above(2, 3, 4, 0, 0, 9),
		leaf(1, sealed(key, 0, make([]byte, 4))...),
		above(1, 1, 11, 0, 0, 0),
		above(1, 2, 12, 0, 0, 0),
		above(1, 3, 13, 0, 0, 0),
	}, free(8)...)...)
}

// bytesOf tells what a root of nest has, with the noughts behind it; of 14 none, as it is no file's.
func bytesOf(root int) []byte {
	b := make([]byte, api.MaxSize)
	if root == 5 || root == 10 {
		copy(b, "\x00\x00abc")
	}
	if root == 10 {
		b[255] = 'z'
	}
	return b
}

func wantZero(t *testing.T, what string, l ...any) {
	t.Helper()
	for _, x := range l {
		if !reflect.ValueOf(x).IsZero() {
			t.Errorf("%s: %v beside an error", what, x)
		}
	}
}

func wantFile(t *testing.T, what string, s api.Store, key int, f api.File, want []byte) {
	t.Helper()
	if e := file.Check(s, key, f); e != api.OK {
		t.Fatalf("%s: Check: error %d", what, e)
	}
	got, e := file.Read(s, key, f, 0, api.MaxSize)
	if e != api.OK || !bytes.Equal(got, want) {
		t.Fatalf("%s: %q, error %d, want %q", what, got, e, want)
	}
}

func firstOf(l ...api.Errno) api.Errno {
	for _, e := range l {
		if e != api.OK {
			return e
		}
	}
	return api.OK
}

func rangeError(n int) api.Errno {
	if n < 0 || n > api.MaxSize {
		return api.ErrRange
	}
	return api.OK
}

func TestCheck(t *testing.T) {
	if e := store.Check(nest()); e != api.OK {
		t.Fatalf("not a right store: error %d", e)
	}
	for _, c := range []struct {
		key  int
		f    api.File
		want api.Errno
	}{
		{key, api.File{}, api.OK},
		{0, api.File{Size: 1}, api.OK},
		{api.MaxKey, api.File{Size: api.MaxSize}, api.OK},
		{key, api.File{Root: 5, Size: 5}, api.OK},
		{key, api.File{Root: 5, Size: 6}, api.OK},
		{key, api.File{Root: 5, Size: api.MaxSize}, api.OK},
		{key, api.File{Root: 10, Size: api.MaxSize}, api.OK},

		{-1, api.File{}, api.ErrRange},
		{api.MaxKey + 1, api.File{}, api.ErrRange},
		{math.MinInt, api.File{}, api.ErrRange},
		{math.MaxInt, api.File{}, api.ErrRange},
		{key, api.File{Size: -1}, api.ErrRange},
		{key, api.File{Root: 5, Size: api.MaxSize + 1}, api.ErrRange},
		{key, api.File{Size: math.MinInt}, api.ErrRange},
		{key, api.File{Size: math.MaxInt}, api.ErrRange},
		{key, api.File{Root: 6, Size: 5}, api.ErrWho},
		{key, api.File{Root: -1, Size: 5}, api.ErrWho},
		{key, api.File{Root: 22, Size: 5}, api.ErrWho},
		{key, api.File{Root: 23, Size: 5}, api.ErrWho},
		{key, api.File{Root: math.MaxInt, Size: 5}, api.ErrWho},
		{key, api.File{Root: math.MinInt, Size: 5}, api.ErrWho},
		{key, api.File{Root: 4, Size: 5}, api.ErrForm},
		{key, api.File{Root: 1, Size: 5}, api.ErrForm},

		// A byte behind the size: in the leaf where it ends, just at its end, in a leaf behind it.
		{key, api.File{Root: 5, Size: 4}, api.ErrForm},
		{key, api.File{Root: 5, Size: 3}, api.ErrForm},
		{key, api.File{Root: 5, Size: 0}, api.ErrForm},
		{key, api.File{Root: 10, Size: 255}, api.ErrForm},
		{key, api.File{Root: 10, Size: 252}, api.ErrForm},
		{key, api.File{Root: 10, Size: 5}, api.ErrForm},
		// Four noughts, within the size and behind it.
		{key, api.File{Root: 14, Size: api.MaxSize}, api.ErrForm},
		{key, api.File{Root: 14, Size: 0}, api.ErrForm},
		{key + 1, api.File{Root: 5, Size: 5}, api.ErrForm},
	} {
		if e := file.Check(nest(), c.key, c.f); e != c.want {
			t.Errorf("Check of %v, key %d: error %d, want %d", c.f, c.key, e, c.want)
		}
	}
	if e := file.Check(api.Store{}, key, api.File{Size: 9}); e != api.OK {
		t.Errorf("Check of noughts where there are no blocks: error %d", e)
	}
}

// A leaf is sealed and opened at its own place among the leaves, not at that of its bytes.
func TestLeavesAreSealedAtTheirPlace(t *testing.T) {
	s, _ := store.New(4)
	for _, c := range []struct {
		key, at int
		b       []byte
		want    []byte
	}{
		{7, 0, []byte("\x00\x00ab"), []byte{189, 150, 116, 25}},
		{7, 4, []byte("c"), []byte{32, 112, 235, 225}},
		{0, 28, []byte{1, 2, 3, 4}, []byte{27, 192, 187, 34}},
		{1000, 255, []byte{1}, []byte{255, 227, 150, 40}},
		{7, 4, []byte{1, 2, 3, 4}, []byte{190, 114, 238, 229}},
	} {
		got, f, e := file.Write(s, c.key, api.File{}, c.at, c.b)
		if e != api.OK || f.Root != 4 || !bytes.Equal(got.Blocks[0].Bytes, c.want) {
			t.Errorf("key %d, at %d: %v, error %d, %v, want %v", c.key, c.at, f, e, got, c.want)
		}
	}
	for i := range places {
		s, root, _ := tree.Put(s, 0, api.Top, i, sealed(key, i, []byte{9, 8, 7, 6}))
		wantFile(t, fmt.Sprint("place ", i), s, key, api.File{Root: root, Size: i*4 + 4}, append(make([]byte, i*4), 9, 8, 7, 6))
	}
}

// wrongStores are stores that chapter 2's Check refuses, each by another of its errors, or for another cause.
func wrongStores() []api.Store {
	turned := func(turn func(s *api.Store)) api.Store {
		s := nest()
		turn(&s)
		return s
	}
	return []api.Store{
		turned(func(s *api.Store) { s.Blocks = append(s.Blocks, free(api.MaxBlocks)...) }),
		turned(func(s *api.Store) { s.Blocks[5].Level = 1 }),
		turned(func(s *api.Store) { s.Blocks[0].Refs = -1 }),
		turned(func(s *api.Store) { s.Blocks[0].Refs = api.MaxRefs + 1 }),
		turned(func(s *api.Store) { s.Blocks[0].Bytes = []byte{1, 2, 3} }),
		turned(func(s *api.Store) { s.Blocks[9].Kids = []int{4, 0, 0, 99} }),
		turned(func(s *api.Store) { s.Blocks[9].Kids = []int{0, 0, 0, 0} }),
		turned(func(s *api.Store) { s.Blocks[3].Refs = 1 }),
	}
}

// checkError tells what is wrong with a file of nest, or of a wrong store.
func checkError(s api.Store, k int, f api.File) api.Errno {
	if k < 0 || k > api.MaxKey {
		return api.ErrRange
	}
	if e := firstOf(rangeError(f.Size), store.Check(s)); e != api.OK {
		return e
	}
	switch {
	case f.Root == 0:
		return api.OK
	case f.Root == 5 && (k == key && f.Size >= 5 || f.Size >= 8), f.Root == 10 && f.Size == api.MaxSize:
		return api.OK
	case f.Root == 14 && k != key && f.Size >= 4: // what one key opens as noughts, another one doesn't
		return api.OK
	case f.Root < 0 || f.Root == 6 || f.Root > 14:
		return api.ErrWho
	}
	return api.ErrForm
}

func overError(at, n int) api.Errno {
	if at < 0 || at > api.MaxSize || n > api.MaxSize {
		return api.ErrRange
	}
	if at+n > api.MaxSize {
		return api.ErrFull
	}
	return api.OK
}

func edges() []int {
	return []int{math.MinInt, -1, 0, 3, 200, api.MaxSize, api.MaxSize + 1, math.MaxInt}
}

// Each error alone, and each with all later ones beside it: all stores, keys, sizes, roots, places and numbers.
func TestErrorsInTheirOrder(t *testing.T) {
	for _, s := range append(wrongStores(), nest()) {
		for _, k := range []int{-1, key, key + 1, api.MaxKey + 1} {
			for _, size := range []int{-1, 0, 4, 5, 255, api.MaxSize, api.MaxSize + 1} {
				for _, root := range []int{-1, 0, 3, 5, 6, 10, 14, 99} {
					wantErrors(t, s, k, api.File{Root: root, Size: size})
				}
			}
		}
	}
}

func wantErrors(t *testing.T, s api.Store, k int, f api.File) {
	t.Helper()
	ahead := checkError(s, k, f)
	wantError := func(what string, got, want api.Errno, rest ...any) {
		t.Helper()
		if got != want {
			t.Errorf("%s of %v, key %d: error %d, want %d", what, f, k, got, want)
		}
		if got != api.OK {
			wantZero(t, what, rest...)
		}
	}
	wantError("Check", file.Check(s, k, f), ahead)
	for _, x := range edges() {
		for _, y := range edges() {
			b, e := file.Read(s, k, f, x, y)
			wantError(fmt.Sprintf("Read at %d, %d", x, y), e, firstOf(ahead, rangeError(x), rangeError(y)), b)
		}
		// Noughts, of which no leaf is made where none was: where there is no root, the store needn't have room.
		for _, n := range []int{0, 1, 56, 57, api.MaxSize, api.MaxSize + 1, 5000} {
			got, g, e := file.Write(s, k, f, x, bytes.Repeat([]byte{0}, n))
			wantError(fmt.Sprintf("Write at %d, %d", x, n), e, firstOf(ahead, overError(x, n)), got, g)
		}
		got, g, e := file.Cut(s, k, f, x)
		wantError(fmt.Sprintf("Cut to %d", x), e, firstOf(ahead, rangeError(x)), got, g)
	}
}

// That there is no room for what is made is told last.
func TestErrorsAheadOfFull(t *testing.T) {
	s := nest()
	s.Blocks = s.Blocks[:14]
	s.Blocks[5] = leaf(1, 1, 2, 3, 4)
	for what, c := range map[string]struct {
		key  int
		f    api.File
		at   int
		b    []byte
		want api.Errno
	}{
		"key":   {-1, api.File{Root: 5, Size: 5}, 0, []byte{1}, api.ErrRange},
		"size":  {key, api.File{Root: 5, Size: -1}, 0, []byte{1}, api.ErrRange},
		"root":  {key, api.File{Root: 99, Size: 5}, 0, []byte{1}, api.ErrWho},
		"leaf":  {key, api.File{Root: 5, Size: 4}, 0, []byte{1}, api.ErrForm},
		"at":    {key, api.File{Root: 5, Size: 5}, api.MaxSize + 1, []byte{1}, api.ErrRange},
		"bytes": {key, api.File{Root: 5, Size: 5}, 0, make([]byte, api.MaxSize+1), api.ErrRange},
		"full":  {key, api.File{Root: 5, Size: 5}, 0, []byte{1}, api.ErrFull},
	} {
		got, g, e := file.Write(s, c.key, c.f, c.at, c.b)
		if e != c.want {
			t.Errorf("%s: error %d, want %d", what, e, c.want)
		}
		wantZero(t, what, got, g)
	}
	got, g, e := file.Cut(s, key, api.File{Root: 5, Size: 5}, api.MaxSize+1)
	if e != api.ErrRange {
		t.Errorf("Cut to too much: error %d", e)
	}
	wantZero(t, "Cut", got, g)
	got, g, e = file.Cut(s, key, api.File{Root: 5, Size: 5}, 4)
	if e != api.ErrFull {
		t.Errorf("Cut: error %d", e)
	}
	wantZero(t, "Cut", got, g)
}

func TestOver(t *testing.T) {
	full := bytes.Repeat([]byte{5}, api.MaxSize)
	long := bytes.Repeat([]byte{6}, api.MaxSize+50)
	for _, c := range []struct {
		b    []byte
		at   int
		more []byte
		want []byte
		e    api.Errno
	}{
		{nil, 0, nil, nil, api.OK},
		{[]byte("abc"), 0, []byte("x"), []byte("xbc"), api.OK},
		{[]byte("abc"), 1, []byte("xy"), []byte("axy"), api.OK},
		{[]byte("abc"), 2, []byte("xy"), []byte("abxy"), api.OK},
		{[]byte("abc"), 3, []byte("xy"), []byte("abcxy"), api.OK},
		{[]byte("abc"), 5, []byte("xy"), []byte("abc\x00\x00xy"), api.OK},
		{nil, 2, []byte{0}, []byte{0, 0, 0}, api.OK},
		{nil, 0, full, full, api.OK},
		{[]byte("abc"), 0, full, full, api.OK},
		{nil, 255, []byte("x"), append(make([]byte, 255), 'x'), api.OK},
		{full, 0, nil, full, api.OK},
		{full, api.MaxSize, nil, full, api.OK},
		{[]byte("abc"), api.MaxSize, []byte{}, []byte("abc"), api.OK},
		// b may have any length: nothing is said of it.
		{long, 200, full[:56], slices.Concat(long[:200], full[:56], long[256:]), api.OK},
		{long, 0, nil, long, api.OK},

		{[]byte("abc"), -1, nil, nil, api.ErrRange},
		{[]byte("abc"), api.MaxSize + 1, nil, nil, api.ErrRange},
		{nil, math.MinInt, []byte("x"), nil, api.ErrRange},
		{nil, math.MaxInt, []byte("x"), nil, api.ErrRange},
		{nil, 0, long, nil, api.ErrRange},
		{nil, api.MaxSize, long, nil, api.ErrRange},
		{nil, api.MaxSize, []byte("x"), nil, api.ErrFull},
		{nil, 255, []byte("xy"), nil, api.ErrFull},
		{full, 1, full, nil, api.ErrFull},
		{long, api.MaxSize, []byte("x"), nil, api.ErrFull},
	} {
		got, e := file.Over(c.b, c.at, c.more)
		if e != c.e || !bytes.Equal(got, c.want) {
			t.Errorf("Over of %d, at %d, %d: %q, error %d, want %q, %d", len(c.b), c.at, len(c.more), got, e, c.want, c.e)
		}
		if e != api.OK {
			wantZero(t, "Over", got)
		}
	}
	for at := range api.MaxSize + 1 {
		if got, e := file.Over([]byte("abc"), at, nil); e != api.OK || string(got) != "abc" {
			t.Errorf("Over with no bytes, at %d: %q, error %d", at, got, e)
		}
	}
}

func TestRead(t *testing.T) {
	numbers := []int{0, 1, 2, 3, 4, 5, 6, 7, 8, 9, 100, 251, 252, 255, 256}
	for _, f := range []api.File{{}, {Size: 3}, {Size: 256}, {Root: 5, Size: 5}, {Root: 5, Size: 9}, {Root: 10, Size: 256}} {
		for _, at := range numbers {
			for _, n := range numbers {
				want := bytesOf(f.Root)[:f.Size]
				want = want[min(at, len(want)):]
				want = want[:min(n, len(want))]
				if got, e := file.Read(nest(), key, f, at, n); e != api.OK || !bytes.Equal(got, want) {
					t.Errorf("Read of %v, %d from %d on: %q, error %d, want %q", f, n, at, got, e, want)
				}
			}
		}
	}
}

// bySteps is what the document tells of Write and Cut, one step after the other, by the layers that it names.
func bySteps(t *testing.T, s api.Store, f api.File, now []byte) (api.Store, api.File, api.Errno) {
	t.Helper()
	old, e := file.Read(s, key, f, 0, api.MaxSize)
	if e != api.OK {
		t.Fatalf("Read: error %d", e)
	}
	old = append(old, make([]byte, api.MaxSize-len(old))...)
	size := len(now)
	now = append(slices.Clone(now), make([]byte, api.MaxSize-len(now))...)
	made := f.Root
	if made != 0 {
		s, _ = store.Keep(s, made)
	}
	for i := range places {
		here := now[4*i : 4*i+4]
		if bytes.Equal(old[4*i:4*i+4], here) {
			continue
		}
		put := sealed(key, i, here)
		if bytes.Equal(here, make([]byte, 4)) {
			put = nil
		}
		next, root, e := tree.Put(s, made, api.Top, i, put)
		if e != api.OK {
			return api.Store{}, api.File{}, e
		}
		if made != 0 {
			if next, e = store.Drop(next, made); e != api.OK {
				return api.Store{}, api.File{}, e
			}
		}
		s, made = next, root
	}
	return s, api.File{Root: made, Size: size}, api.OK
}

// wantTurned holds what Write or Cut answered against the steps, and against the bytes that it must have.
func wantTurned(t *testing.T, what string, s api.Store, f api.File, now []byte, got api.Store, g api.File, e api.Errno) {
	t.Helper()
	want, h, wantE := bySteps(t, s, f, now)
	if e != wantE || g != h || !store.Same(got, want) {
		t.Fatalf("%s: %v, error %d, %v, want %v, %d, %v", what, g, e, got, h, wantE, want)
	}
	if e != api.OK {
		wantZero(t, what, got, g)
		return
	}
	wantFile(t, what, got, key, g, now)
	old, _ := file.Read(s, key, f, 0, api.MaxSize)
	wantFile(t, what+", the old one", got, key, f, old)
	wantHolds(t, what, s, got, g.Root)
}

// wantHolds: root is held outside once more, or once if it is new, and all else as it was.
func wantHolds(t *testing.T, what string, old, now api.Store, root int) {
	t.Helper()
	ahead, _ := store.Outside(old)
	outside, e := store.Outside(now)
	if e != api.OK {
		t.Fatalf("%s: no right store: error %d", what, e)
	}
	if root != 0 {
		ahead[root-1]++
	}
	if !slices.Equal(outside, ahead) {
		t.Errorf("%s: held outside %v, want %v", what, outside, ahead)
	}
}

func TestWrite(t *testing.T) {
	wide := nest()
	wide.Blocks = append(wide.Blocks, free(100)...)
	for _, c := range []struct {
		what string
		f    api.File
		at   int
		b    string
	}{
		{"nothing into nothing", api.File{}, 0, ""},
		{"nothing at the end of all", api.File{}, api.MaxSize, ""},
		{"nothing, far behind the end", api.File{Root: 5, Size: 5}, 100, ""},
		{"a byte", api.File{}, 0, "x"},
		{"the last byte", api.File{}, 255, "x"},
		{"a nought", api.File{}, 0, "\x00"},
		{"the last nought", api.File{}, 255, "\x00"},
		{"within a leaf", api.File{Root: 5, Size: 5}, 1, "xy"},
		{"a whole leaf", api.File{Root: 5, Size: 5}, 0, "wxyz"},
		{"over the edge of two leaves", api.File{Root: 5, Size: 5}, 3, "xy"},
		{"over the edges of three", api.File{Root: 5, Size: 5}, 3, "uvwxyz"},
		{"over an edge of blocks above", api.File{Root: 5, Size: 5}, 62, "wxyz"},
		{"what was there", api.File{Root: 5, Size: 5}, 2, "abc"},
		{"all that was there", api.File{Root: 5, Size: 5}, 0, "\x00\x00abc"},
		{"noughts where a leaf was", api.File{Root: 5, Size: 5}, 4, "\x00"},
		{"noughts where the leaves were", api.File{Root: 5, Size: 5}, 0, "\x00\x00\x00\x00\x00"},
		{"noughts where no leaf was", api.File{Root: 5, Size: 5}, 8, "\x00\x00\x00\x00"},
		{"noughts within a leaf", api.File{Root: 5, Size: 5}, 2, "\x00"},
		{"noughts to the end of a leaf", api.File{Root: 5, Size: 5}, 5, "\x00\x00\x00"},
		{"behind the end", api.File{Root: 5, Size: 5}, 6, "x"},
		{"far behind the end", api.File{Root: 5, Size: 5}, 200, "x"},
		{"where there was no root", api.File{Size: 100}, 50, "x"},
		{"behind the end where there was no root", api.File{Size: 3}, 5, "x"},
		{"what another root has, too", api.File{Root: 10, Size: 256}, 2, "xyz"},
		{"where another root has nothing", api.File{Root: 10, Size: 256}, 255, "y"},
		{"all", api.File{Root: 10, Size: 256}, 0, string(bytes.Repeat([]byte("x"), 256))},
		{"all noughts", api.File{Root: 10, Size: 256}, 0, string(make([]byte, 256))},
		{"some leaves, some not", api.File{Root: 10, Size: 256}, 0, "\x00\x00abxxxx\x00\x00\x00\x00\x00\x00\x00\x01"},
	} {
		now, e := file.Over(bytesOf(c.f.Root)[:c.f.Size], c.at, []byte(c.b))
		if e != api.OK {
			t.Fatalf("%s: Over: error %d", c.what, e)
		}
		got, g, e := file.Write(wide, key, c.f, c.at, []byte(c.b))
		if e != api.OK {
			t.Fatalf("%s: error %d", c.what, e)
		}
		wantTurned(t, c.what, wide, c.f, now, got, g, e)
	}
}

func TestCut(t *testing.T) {
	wide := nest()
	wide.Blocks = append(wide.Blocks, free(100)...)
	for _, f := range []api.File{{}, {Size: 7}, {Size: 256}, {Root: 5, Size: 5}, {Root: 5, Size: 100}, {Root: 10, Size: 256}} {
		for size := range api.MaxSize + 1 {
			now := make([]byte, size)
			copy(now, bytesOf(f.Root))
			got, g, e := file.Cut(wide, key, f, size)
			if e != api.OK {
				t.Fatalf("Cut of %v to %d: error %d", f, size, e)
			}
			wantTurned(t, fmt.Sprintf("Cut of %v to %d", f, size), wide, f, now, got, g, e)
		}
	}
}

// What was cut away is not there when the file grows again.
func TestCutForgets(t *testing.T) {
	f := api.File{Root: 5, Size: 5}
	for size := range 6 {
		s, g, e := file.Cut(nest(), key, f, size)
		if e != api.OK {
			t.Fatalf("Cut to %d: error %d", size, e)
		}
		s, g, e = file.Cut(s, key, g, 8)
		if e != api.OK {
			t.Fatalf("Cut of %d to 8: error %d", size, e)
		}
		wantFile(t, fmt.Sprint("grown from ", size), s, key, g, append([]byte("\x00\x00abc")[:size:size], make([]byte, 8-size)...))
	}
}

// Where no leaf differs, the new file is the old root, held once more.
func TestNoLeafDiffers(t *testing.T) {
	want := nest()
	want.Blocks[4].Refs = 2
	f := api.File{Root: 5, Size: 5}
	wantSame := func(what string, size int, got api.Store, g api.File, e api.Errno) {
		t.Helper()
		if e != api.OK || g != (api.File{Root: 5, Size: size}) || !store.Same(got, want) {
			t.Errorf("%s: %v, error %d, %v, want %v", what, g, e, got, want)
		}
	}
	for _, size := range []int{5, 6, 8, 9, 256} {
		got, g, e := file.Cut(nest(), key, f, size)
		wantSame(fmt.Sprint("Cut to ", size), size, got, g, e)
	}
	got, g, e := file.Write(nest(), key, f, 3, []byte("bc"))
	wantSame("Write of what was there", 5, got, g, e)
	got, g, e = file.Write(nest(), key, f, 256, nil)
	wantSame("Write of nothing", 5, got, g, e)
	got, g, e = file.Write(nest(), key, f, 100, []byte{0})
	wantSame("Write of a nought behind the end", 101, got, g, e)

	for _, size := range []int{0, 9, 256} {
		got, g, e := file.Cut(nest(), key, api.File{Size: 9}, size)
		if e != api.OK || g != (api.File{Size: size}) || !store.Same(got, nest()) {
			t.Errorf("Cut of no root to %d: %v, error %d, %v", size, g, e, got)
		}
	}
}

// The addresses of what is made, step by step: what is made for one leaf and let go for the next one is free again.
func TestWhatIsMade(t *testing.T) {
	s, _ := store.New(12)
	got, f, e := file.Write(s, key, api.File{}, 2, []byte("abc"))
	want := of(append([]api.Block{
		leaf(1, 189, 150, 116, 25), {}, {}, {},
		leaf(1, 32, 112, 235, 225), above(1, 1, 1, 5, 0, 0), above(1, 2, 6, 0, 0, 0), above(1, 3, 7, 0, 0, 0),
	}, free(4)...)...)
	if e != api.OK || f != (api.File{Root: 8, Size: 5}) || !store.Same(got, want) {
		t.Fatalf("Write: %v, error %d, %v, want %v", f, e, got, want)
	}
	got, f, e = file.Cut(got, key, f, 3)
	want = of(
		leaf(1, 189, 150, 116, 25), leaf(1, 189, 150, 116, 183), api.Block{}, api.Block{},
		leaf(1, 32, 112, 235, 225), above(1, 1, 1, 5, 0, 0), above(1, 2, 6, 0, 0, 0), above(1, 3, 7, 0, 0, 0),
		api.Block{}, above(1, 1, 2, 0, 0, 0), above(1, 2, 10, 0, 0, 0), above(1, 3, 11, 0, 0, 0),
	)
	if e != api.OK || f != (api.File{Root: 12, Size: 3}) || !store.Same(got, want) {
		t.Fatalf("Cut: %v, error %d, %v, want %v", f, e, got, want)
	}
}

// A whole file has 85 blocks, who keeps it and writes one byte uses four more; when all is dropped all is free.
func TestWholeFile(t *testing.T) {
	s, _ := store.New(api.MaxBlocks)
	b := make([]byte, api.MaxSize)
	for i := range b {
		b[i] = byte(i%255) + 1
	}
	s, f, e := file.Write(s, key, api.File{}, 0, b)
	if n, _ := store.Used(s); e != api.OK || n != 85 {
		t.Fatalf("error %d, %d blocks used", e, n)
	}
	s, g, e := file.Write(s, key, f, 100, []byte{0})
	if n, _ := store.Used(s); e != api.OK || n != 89 {
		t.Fatalf("one byte: error %d, %d blocks used", e, n)
	}
	wantFile(t, "the old one", s, key, f, b)
	b[100] = 0
	wantFile(t, "the new one", s, key, g, b)
	for _, root := range []int{f.Root, g.Root} {
		s, _ = store.Drop(s, root)
	}
	if n, _ := store.Used(s); n != 0 {
		t.Errorf("%d blocks are used by nobody", n)
	}
}

// A Write or Cut with fewer free blocks than it needs answers the error alone; with just as many it is done.
func TestLastFreeBlocks(t *testing.T) {
	f := api.File{Root: 10, Size: 256}
	full := bytes.Repeat([]byte("x"), 256)
	for _, c := range []struct {
		what  string
		f     api.File
		at    int
		b     []byte
		needs int
	}{
		{"nothing", f, 9, nil, 0},
		{"a byte", f, 2, []byte("x"), 4},
		{"two leaves", f, 2, []byte("xxx"), 8},
		{"noughts in the place of the last leaf", f, 255, []byte{0}, 1},
		{"a new byte", api.File{}, 2, []byte("x"), 4},
		{"a new file of two leaves", api.File{}, 2, []byte("xxx"), 8},
		{"a new file of all leaves", api.File{}, 0, full, 88},
	} {
		now, _ := file.Over(bytesOf(c.f.Root)[:c.f.Size], c.at, c.b)
		for n := range c.needs + 3 {
			s := nest()
			s.Blocks = append(s.Blocks[:14], free(n)...)
			s.Blocks[5] = leaf(1, 1, 2, 3, 4)
			ahead := whole(s)
			got, g, e := file.Write(s, key, c.f, c.at, c.b)
			if (e == api.ErrFull) != (n < c.needs) {
				t.Errorf("%s, %d free: error %d", c.what, n, e)
			}
			wantTurned(t, c.what, s, c.f, now, got, g, e)
			if whole(s) != ahead {
				t.Errorf("%s, %d free: what was handed in has changed", c.what, n)
			}
		}
	}
}

func TestCutIntoLastFreeBlocks(t *testing.T) {
	for size, needs := range map[int]int{0: 4, 3: 7, 4: 4, 255: 1, 256: 0} {
		for n := range needs + 3 {
			s := nest()
			s.Blocks = append(s.Blocks[:14], free(n)...)
			s.Blocks[5] = leaf(1, 1, 2, 3, 4)
			ahead := whole(s)
			got, g, e := file.Cut(s, key, api.File{Root: 10, Size: 256}, size)
			if (e == api.ErrFull) != (n < needs) {
				t.Errorf("to %d, %d free: error %d", size, n, e)
			}
			wantTurned(t, "Cut", s, api.File{Root: 10, Size: 256}, bytesOf(10)[:size], got, g, e)
			if whole(s) != ahead {
				t.Errorf("to %d, %d free: what was handed in has changed", size, n)
			}
		}
	}
}

// The old root is held once more even above MaxRefs; the first Put refuses that store then, ahead of all else.
func TestRootThatIsHeldMost(t *testing.T) {
	s := nest()
	s.Blocks[4].Refs = api.MaxRefs
	f := api.File{Root: 5, Size: 5}
	got, g, e := file.Cut(s, key, f, 9)
	if e != api.OK || g != (api.File{Root: 5, Size: 9}) || got.Blocks[4].Refs != api.MaxRefs+1 {
		t.Errorf("no leaf differs: %v, error %d, %v", g, e, got)
	}
	for _, n := range []int{14, 19} {
		s.Blocks = s.Blocks[:n]
		got, g, e = file.Write(s, key, f, 2, []byte("x"))
		if e != api.ErrRange {
			t.Errorf("%d blocks: error %d", n, e)
		}
		wantZero(t, "a leaf differs", got, g)
		s.Blocks = append(s.Blocks, free(5)...)
	}
	s.Blocks[4].Refs--
	if got, g, e = file.Write(s, key, f, 2, []byte("x")); e != api.OK || got.Blocks[4].Refs != api.MaxRefs-1 {
		t.Errorf("as often as may be: %v, error %d", g, e)
	}
}

// What stands beside the new leaf goes above MaxRefs: Drop of what was made ahead refuses that store.
func TestBesideWhatIsHeldMost(t *testing.T) {
	s := nest()
	s.Blocks[3].Refs = api.MaxRefs
	got, g, e := file.Write(s, key, api.File{Root: 10, Size: 256}, 255, []byte("x"))
	if e != api.ErrRange {
		t.Errorf("error %d, %v", e, got)
	}
	wantZero(t, "beside", got, g)
	s.Blocks[3].Refs--
	if got, _, e = file.Write(s, key, api.File{Root: 10, Size: 256}, 255, []byte("x")); e != api.OK || got.Blocks[3].Refs != api.MaxRefs {
		t.Errorf("as often as may be: error %d", e)
	}
}

// known is a file, and what must be in it.
type known struct {
	f api.File
	b []byte
}

// Many Writes and Cuts of many files that share a store, some of which are dropped, against what each must have.
func TestManyFiles(t *testing.T) {
	for seed := range int64(20) {
		r := rand.New(rand.NewSource(seed))
		s, _ := store.New(5 + r.Intn(150))
		all := []known{{}}
		for range 60 {
			from := all[r.Intn(len(all))]
			now, got, g, e := oneTurn(t, r, s, from)
			wantTurned(t, fmt.Sprint("seed ", seed), s, from.f, now, got, g, e)
			if e == api.OK {
				s = got
				all = append(all, known{g, now})
			}
			for e != api.OK && len(all) > 1 && r.Intn(3) > 0 {
				k := 1 + r.Intn(len(all)-1)
				if root := all[k].f.Root; root != 0 {
					s, _ = store.Drop(s, root)
				}
				all = slices.Delete(all, k, k+1)
			}
			for _, k := range all {
				wantFile(t, fmt.Sprint("seed ", seed), s, key, k.f, k.b)
			}
		}
	}
}

// oneTurn writes or cuts one file somehow, and tells what it must have then.
func oneTurn(t *testing.T, r *rand.Rand, s api.Store, from known) ([]byte, api.Store, api.File, api.Errno) {
	t.Helper()
	if r.Intn(3) == 0 {
		now := make([]byte, r.Intn(api.MaxSize+1))
		copy(now, from.b)
		got, g, e := file.Cut(s, key, from.f, len(now))
		return now, got, g, e
	}
	at := r.Intn(api.MaxSize + 1)
	b := make([]byte, r.Intn(min(40, api.MaxSize-at)+1))
	for i := range b {
		b[i] = []byte{0, 0, 'a', 'b'}[r.Intn(4)]
	}
	now := slices.Clone(from.b)
	for len(b) > 0 && len(now) < at+len(b) {
		now = append(now, 0)
	}
	copy(now[min(at, len(now)):], b)
	got, g, e := file.Write(s, key, from.f, at, b)
	return now, got, g, e
}

// lists are the lists of a store, whole: with their spare room.
func lists(s api.Store) []reflect.Value {
	l := []reflect.Value{reflect.ValueOf(s.Blocks)}
	for _, b := range s.Blocks {
		l = append(l, reflect.ValueOf(b.Kids), reflect.ValueOf(b.Bytes))
	}
	return l
}

func overlap(x, y reflect.Value) bool {
	size := func(v reflect.Value) uintptr { return uintptr(v.Cap()) * v.Type().Elem().Size() }
	return size(x) > 0 && size(y) > 0 && x.Pointer() < y.Pointer()+size(y) && y.Pointer() < x.Pointer()+size(x)
}

func wantApart(t *testing.T, what string, in, out []reflect.Value) {
	t.Helper()
	for i, x := range out {
		for _, y := range slices.Concat(in, out[i+1:]) {
			if overlap(x, y) {
				t.Fatalf("%s: lists share memory", what)
			}
		}
	}
}

// whole tells all of a store, with the spare room of its lists.
func whole(s api.Store) string {
	told := fmt.Sprint(len(s.Blocks), s.Blocks[:cap(s.Blocks)])
	for _, b := range s.Blocks {
		told += fmt.Sprint(b.Kids[:cap(b.Kids)], b.Bytes[:cap(b.Bytes)])
	}
	return told
}

func TestArgumentsAreOnlyRead(t *testing.T) {
	s := nest()
	s.Blocks = append(make([]api.Block, 0, 300), s.Blocks...)
	b := append(make([]byte, 0, 40), "\x00\x00abxxxx\x00\x00\x00\x00xxxx"...)
	s.Blocks = append(s.Blocks, free(20)...)
	ahead := whole(s) + fmt.Sprint(b[:40])
	in := append(lists(s), reflect.ValueOf(b))
	one := func(b []byte) []reflect.Value { return []reflect.Value{reflect.ValueOf(b)} }
	for _, f := range []api.File{{}, {Size: 9}, {Root: 5, Size: 5}, {Root: 10, Size: 256}, {Root: 14, Size: 9}} {
		file.Check(s, key, f)
		for _, n := range []int{-1, 0, 2, 5, 250, 256} {
			read, _ := file.Read(s, key, f, 0, n)
			wantApart(t, "Read", in, one(read))
			for _, part := range [][]byte{b, b[:0], b[:8], nil} {
				if got, _, e := file.Write(s, key, f, n, part); e == api.OK {
					wantApart(t, "Write", in, lists(got))
				}
				over, _ := file.Over(b[:9], n, part)
				wantApart(t, "Over", in, one(over))
			}
			if got, _, e := file.Cut(s, key, f, n); e == api.OK {
				wantApart(t, "Cut", in, lists(got))
			}
		}
	}
	if now := whole(s) + fmt.Sprint(b[:40]); now != ahead {
		t.Errorf("what was handed in was changed: %s, was %s", now, ahead)
	}
}

// Over may be told the same memory twice.
func TestOverOfItself(t *testing.T) {
	b := []byte("abcdef")
	got, e := file.Over(b[:4], 2, b[1:])
	if e != api.OK || string(got) != "abbcdef" || string(b) != "abcdef" {
		t.Errorf("%q, error %d, of %q", got, e, b)
	}
}
