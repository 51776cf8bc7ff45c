package tree_test

import (
	"fmt"
	"math"
	"math/rand"
	"reflect"
	"slices"
	"testing"

	"rookery/api"
	"rookery/store"
	"rookery/tree"
)

func leaf(refs int, b ...byte) api.Block {
	return api.Block{Refs: refs, Bytes: append(make([]byte, 0, 9), b...)}
}

func above(refs, level int, kids ...int) api.Block {
	return api.Block{Refs: refs, Level: level, Kids: append(make([]int, 0, 9), kids...)}
}

func of(l ...api.Block) api.Store { return api.Store{Blocks: l} }

var (
	one   = []byte{1, 1, 1, 1}
	two   = []byte{2, 2, 2, 2}
	three = []byte{3, 3, 3, 3}
	zero  = []byte{0, 0, 0, 0}
)

// grove is a right store with roots of each level: leaf 1 stands twice below 3, block 3 twice below 5; leaf 6 has the
// bytes of leaf 1; 4 is free; 9 and 10 share blocks; all of 5, 8, 9, 10 and the leaf 11 are held outside.
func grove() api.Store {
	return of(
		leaf(2, one...),
		leaf(2, two...),
		above(2, 1, 1, 0, 2, 1),
		api.Block{},
		above(3, 2, 3, 0, 0, 3),
		leaf(2, one...),
		above(1, 1, 6, 0, 2, 6),
		above(2, 2, 7, 0, 0, 0),
		above(1, 3, 5, 0, 0, 8),
		above(1, 3, 5, 0, 0, 0),
		leaf(1, zero...),
		api.Block{},
		api.Block{},
		api.Block{},
	)
}

const freeInGrove = 4

// levelOf tells the levels of grove's blocks that are there.
var levelOf = map[int]int{1: 0, 2: 0, 3: 1, 5: 2, 6: 0, 7: 1, 8: 2, 9: 3, 10: 3, 11: 0}

func placesBelow(level int) int { return []int{1, 4, 16, 64}[level] }

// leavesOf tells the places of a root at which something stands.
func leavesOf(root int) map[int][]byte {
	switch root {
	case 1, 6:
		return map[int][]byte{0: one}
	case 2:
		return map[int][]byte{0: two}
	case 11:
		return map[int][]byte{0: zero}
	case 3, 7, 8:
		return map[int][]byte{0: one, 2: two, 3: one}
	case 5, 10:
		return map[int][]byte{0: one, 2: two, 3: one, 12: one, 14: two, 15: one}
	case 9:
		return map[int][]byte{0: one, 2: two, 3: one, 12: one, 14: two, 15: one, 48: one, 50: two, 51: one}
	}
	return nil
}

func wantZero(t *testing.T, what string, l ...any) {
	t.Helper()
	for _, x := range l {
		if !reflect.ValueOf(x).IsZero() {
			t.Errorf("%s: %v beside an error", what, x)
		}
	}
}

func wantRight(t *testing.T, s api.Store) {
	t.Helper()
	if e := store.Check(s); e != api.OK {
		t.Fatalf("not a right store: error %d: %v", e, s)
	}
}

func TestGroveIsRight(t *testing.T) {
	wantRight(t, grove())
	outside, _ := store.Outside(grove())
	if want := []int{0, 0, 0, 0, 1, 0, 0, 1, 1, 1, 1, 0, 0, 0}; !slices.Equal(outside, want) {
		t.Fatalf("Outside: %v, want %v", outside, want)
	}
	for a, level := range levelOf {
		if grove().Blocks[a-1].Level != level {
			t.Errorf("block %d is not of level %d", a, level)
		}
	}
}

func TestLeaves(t *testing.T) {
	for level, want := range []int{1, 4, 16, 64} {
		if n, e := tree.Leaves(level); n != want || e != api.OK {
			t.Errorf("Leaves(%d): %d, error %d", level, n, e)
		}
	}
	if n, _ := tree.Leaves(api.Top); n*api.Leaf != api.MaxSize {
		t.Errorf("Leaves of the top: %d", n)
	}
	for _, level := range []int{-1, api.Top + 1, math.MinInt, math.MaxInt} {
		n, e := tree.Leaves(level)
		if e != api.ErrRange {
			t.Errorf("Leaves(%d): error %d", level, e)
		}
		wantZero(t, "Leaves", n)
	}
}

func wantLeaves(t *testing.T, s api.Store, root, level int, want map[int][]byte) {
	t.Helper()
	all, e := tree.All(s, root, level)
	if e != api.OK || len(all) != placesBelow(level) {
		t.Fatalf("All of %d: %d places, error %d", root, len(all), e)
	}
	for i, b := range all {
		if !slices.Equal(b, want[i]) {
			t.Errorf("All of %d: at %d %v, want %v", root, i, b, want[i])
		}
		got, e := tree.Get(s, root, level, i)
		if e != api.OK || !slices.Equal(got, want[i]) {
			t.Errorf("Get of %d at %d: %v, error %d, want %v", root, i, got, e, want[i])
		}
	}
}

func TestGetAndAll(t *testing.T) {
	for root, level := range levelOf {
		wantLeaves(t, grove(), root, level, leavesOf(root))
	}
	for level := range api.Top + 1 {
		wantLeaves(t, grove(), 0, level, nil)
		wantLeaves(t, api.Store{}, 0, level, nil)
	}
}

// Four noughts are a leaf, and unlike none.
func TestNoughtsAreNotNothing(t *testing.T) {
	if got, e := tree.Get(grove(), 11, 0, 0); e != api.OK || len(got) != api.Leaf {
		t.Errorf("Get: %v, error %d", got, e)
	}
	for _, pair := range [][2]int{{0, 11}, {11, 0}} {
		if got, e := tree.Differ(grove(), pair[0], pair[1], 0); e != api.OK || !slices.Equal(got, []int{0}) {
			t.Errorf("Differ of %v: %v, error %d", pair, got, e)
		}
	}
}

func TestDiffer(t *testing.T) {
	for _, c := range []struct {
		a, b, level int
		want        []int
	}{
		{0, 0, 0, nil},
		{0, 0, 3, nil},
		{9, 9, 3, nil},
		{1, 1, 0, nil},
		{1, 6, 0, nil}, // other addresses, the same bytes
		{1, 2, 0, []int{0}},
		{3, 7, 1, nil},
		{0, 3, 1, []int{0, 2, 3}},
		{5, 8, 2, []int{12, 14, 15}},
		{9, 10, 3, []int{48, 50, 51}},
		{0, 9, 3, []int{0, 2, 3, 12, 14, 15, 48, 50, 51}},
	} {
		for _, pair := range [][2]int{{c.a, c.b}, {c.b, c.a}} {
			got, e := tree.Differ(grove(), pair[0], pair[1], c.level)
			if e != api.OK || !slices.Equal(got, c.want) {
				t.Errorf("Differ of %v: %v, error %d, want %v", pair, got, e, c.want)
			}
		}
	}
}

// What Differ says is what Get says, of all pairs of grove's blocks.
func TestDifferIsWhatGetSays(t *testing.T) {
	s := grove()
	for a := range len(s.Blocks) + 1 {
		for b := range len(s.Blocks) + 1 {
			for level := range api.Top + 1 {
				if (a != 0 && !isOf(a, level)) || (b != 0 && !isOf(b, level)) {
					continue
				}
				var want []int
				for i := range placesBelow(level) {
					x, _ := tree.Get(s, a, level, i)
					y, _ := tree.Get(s, b, level, i)
					if !slices.Equal(x, y) {
						want = append(want, i)
					}
				}
				if got, e := tree.Differ(s, a, b, level); e != api.OK || !slices.Equal(got, want) {
					t.Errorf("Differ of %d and %d: %v, error %d, want %v", a, b, got, e, want)
				}
			}
		}
	}
}

func isOf(a, level int) bool {
	l, there := levelOf[a]
	return there && l == level
}

// wrongStores are stores that Check refuses, each by another of its errors, or the same one for another cause.
func wrongStores() []api.Store {
	turned := func(turn func(s *api.Store)) api.Store {
		s := grove()
		turn(&s)
		return s
	}
	return []api.Store{
		turned(func(s *api.Store) { s.Blocks = append(s.Blocks, make([]api.Block, api.MaxBlocks)...) }),
		turned(func(s *api.Store) { s.Blocks[3].Level = 1 }),
		turned(func(s *api.Store) { s.Blocks[0].Refs = -1 }),
		turned(func(s *api.Store) { s.Blocks[1].Refs = api.MaxRefs + 1 }),
		turned(func(s *api.Store) { s.Blocks[8].Level = api.Top + 1 }),
		turned(func(s *api.Store) { s.Blocks[0].Bytes = []byte{1, 2, 3} }),
		turned(func(s *api.Store) { s.Blocks[4].Kids = []int{3, 0, 0} }),
		turned(func(s *api.Store) { s.Blocks[9].Kids = []int{5, 0, 0, 4} }),
		turned(func(s *api.Store) { s.Blocks[9].Kids = []int{5, 0, 0, 99} }),
		turned(func(s *api.Store) { s.Blocks[9].Kids = []int{0, 0, 0, 0} }),
		turned(func(s *api.Store) { s.Blocks[2].Refs = 1 }),
	}
}

// rootError tells what is wrong with a root of that level in grove.
func rootError(root, level int) api.Errno {
	l, there := levelOf[root]
	if root != 0 && !there {
		return api.ErrWho
	}
	if root != 0 && l != level {
		return api.ErrForm
	}
	return api.OK
}

func firstOf(l ...api.Errno) api.Errno {
	for _, e := range l {
		if e != api.OK {
			return e
		}
	}
	return api.OK
}

func someRoots() []int {
	return []int{math.MinInt, -1, 0, 1, 3, 4, 5, 9, 11, 14, 15, api.MaxBlocks + 1, math.MaxInt}
}

func someLevels() []int {
	return []int{math.MinInt, -2, -1, 0, 1, 2, 3, api.Top + 1, 5, 64, math.MaxInt}
}

func levelError(level int) api.Errno {
	if level < 0 || level > api.Top {
		return api.ErrRange
	}
	return api.OK
}

func placeError(level, i int) api.Errno {
	if i < 0 || i >= placesBelow(level) {
		return api.ErrRange
	}
	return api.OK
}

// Each error alone, and each with all later ones beside it: all stores, levels, roots, places and lengths of bytes.
func TestErrorsInTheirOrder(t *testing.T) {
	bytes := [][]byte{nil, {}, {1}, {1, 2, 3}, {1, 2, 3, 4}, {1, 2, 3, 4, 5}, make([]byte, 8), make([]byte, 5000)}
	places := []int{math.MinInt, -1, 0, 1, 3, 4, 15, 16, 63, 64, math.MaxInt}
	for _, s := range append(wrongStores(), grove()) {
		wrong := store.Check(s)
		for _, level := range someLevels() {
			for _, root := range someRoots() {
				ahead := firstOf(wrong, levelError(level), rootError(root, level))
				wantAll(t, s, root, level, ahead)
				for _, i := range places {
					e := ahead
					if e == api.OK {
						e = placeError(level, i)
					}
					wantGet(t, s, root, level, i, e)
					for _, b := range bytes {
						wantPut(t, s, root, level, i, b, e)
					}
				}
			}
		}
	}
}

func wantAll(t *testing.T, s api.Store, root, level int, want api.Errno) {
	t.Helper()
	got, e := tree.All(s, root, level)
	if e != want {
		t.Errorf("All of %d, level %d: error %d, want %d", root, level, e, want)
	}
	if e != api.OK {
		wantZero(t, "All", got)
	}
}

func wantGet(t *testing.T, s api.Store, root, level, i int, want api.Errno) {
	t.Helper()
	got, e := tree.Get(s, root, level, i)
	if e != want {
		t.Errorf("Get of %d, level %d, at %d: error %d, want %d", root, level, i, e, want)
	}
	if e != api.OK {
		wantZero(t, "Get", got)
	}
}

func wantPut(t *testing.T, s api.Store, root, level, i int, b []byte, want api.Errno) {
	t.Helper()
	if want == api.OK && len(b) != 0 && len(b) != api.Leaf {
		want = api.ErrMany
	}
	got, a, e := tree.Put(s, root, level, i, b)
	if e != want {
		t.Errorf("Put below %d, level %d, at %d, of %d bytes: error %d, want %d", root, level, i, len(b), e, want)
	}
	if e != api.OK {
		wantZero(t, "Put", got, a)
	}
}

// All that is wrong with a comes ahead of all that is wrong with b.
func TestErrorsOfDiffer(t *testing.T) {
	for _, s := range append(wrongStores(), grove()) {
		wrong := store.Check(s)
		for _, level := range someLevels() {
			for _, a := range someRoots() {
				for _, b := range someRoots() {
					want := firstOf(wrong, levelError(level), rootError(a, level), rootError(b, level))
					got, e := tree.Differ(s, a, b, level)
					if e != want {
						t.Errorf("Differ of %d and %d, level %d: error %d, want %d", a, b, level, e, want)
					}
					if e != api.OK {
						wantZero(t, "Differ", got)
					}
				}
			}
		}
	}
}

// What is full is told last.
func TestErrorsAheadOfFull(t *testing.T) {
	s := grove()
	s.Blocks = s.Blocks[:11]
	s.Blocks[3] = leaf(1, three...)
	for what, c := range map[string]struct {
		root, level, i int
		b              []byte
		want           api.Errno
	}{
		"level":   {9, 4, 0, one, api.ErrRange},
		"no root": {12, 3, 0, one, api.ErrWho},
		"root":    {9, 2, 0, one, api.ErrForm},
		"place":   {9, 3, 64, one, api.ErrRange},
		"bytes":   {9, 3, 0, one[:3], api.ErrMany},
		"full":    {9, 3, 0, one, api.ErrFull},
		"empty":   {9, 3, 0, nil, api.ErrFull},
	} {
		got, a, e := tree.Put(s, c.root, c.level, c.i, c.b)
		if e != c.want {
			t.Errorf("%s: error %d, want %d", what, e, c.want)
		}
		wantZero(t, what, got, a)
	}
}

// bySteps is Put, as the document tells it, by package store alone: from below on, one Make a level.
func bySteps(t *testing.T, s api.Store, root, level, i int, b []byte) (api.Store, int, api.Errno) {
	t.Helper()
	path := []int{root}
	for l := level; l > 0; l-- {
		next := 0
		if at := path[len(path)-1]; at != 0 {
			next = s.Blocks[at-1].Kids[i/placesBelow(l-1)%4]
		}
		path = append(path, next)
	}
	made, e := 0, api.OK
	if len(b) > 0 {
		if s, made, e = store.Make(s, api.Block{Bytes: b}); e != api.OK {
			return api.Store{}, 0, e
		}
	}
	for l := 1; l <= level; l++ {
		kids := make([]int, 4)
		if old := path[level-l]; old != 0 {
			copy(kids, s.Blocks[old-1].Kids)
		}
		kid := made
		kids[i/placesBelow(l-1)%4] = kid
		if slices.Max(kids) == 0 {
			continue
		}
		if s, made, e = store.Make(s, api.Block{Level: l, Kids: kids}); e != api.OK {
			return api.Store{}, 0, e
		}
		if kid != 0 {
			if s, e = store.Drop(s, kid); e != api.OK {
				t.Fatalf("Drop of %d: error %d", kid, e)
			}
		}
	}
	return s, made, api.OK
}

func TestPutOnce(t *testing.T) {
	empty, _ := store.New(4)
	for _, c := range []struct {
		level, i int
		want     api.Store
		root     int
	}{
		{0, 0, of(leaf(1, one...), api.Block{}, api.Block{}, api.Block{}), 1},
		{1, 0, of(leaf(1, one...), above(1, 1, 1, 0, 0, 0), api.Block{}, api.Block{}), 2},
		{1, 3, of(leaf(1, one...), above(1, 1, 0, 0, 0, 1), api.Block{}, api.Block{}), 2},
		{2, 6, of(leaf(1, one...), above(1, 1, 0, 0, 1, 0), above(1, 2, 0, 2, 0, 0), api.Block{}), 3},
		{3, 0, of(leaf(1, one...), above(1, 1, 1, 0, 0, 0), above(1, 2, 2, 0, 0, 0), above(1, 3, 3, 0, 0, 0)), 4},
		{3, 27, of(leaf(1, one...), above(1, 1, 0, 0, 0, 1), above(1, 2, 0, 0, 2, 0), above(1, 3, 0, 3, 0, 0)), 4},
		{3, 63, of(leaf(1, one...), above(1, 1, 0, 0, 0, 1), above(1, 2, 0, 0, 0, 2), above(1, 3, 0, 0, 0, 3)), 4},
	} {
		got, a, e := tree.Put(empty, 0, c.level, c.i, one)
		if e != api.OK || a != c.root || !store.Same(got, c.want) {
			t.Errorf("level %d, at %d: root %d, error %d, %v, want %v", c.level, c.i, a, e, got, c.want)
		}
		wantLeaves(t, got, a, c.level, map[int][]byte{c.i: one})
	}
}

// Below all roots of grove, at all places, of other bytes, the same and none.
func TestPut(t *testing.T) {
	for root, level := range levelOf {
		for i := range placesBelow(level) {
			there, _ := tree.Get(grove(), root, level, i)
			for _, b := range [][]byte{three, zero, nil, {}, there} {
				what := fmt.Sprintf("below %d at %d %v", root, i, b)
				got, a, e := tree.Put(grove(), root, level, i, b)
				want, at, _ := bySteps(t, grove(), root, level, i, b)
				if e != api.OK || a != at || !store.Same(got, want) {
					t.Fatalf("%s: root %d, error %d, %v, want %d, %v", what, a, e, got, at, want)
				}
				wantRight(t, got)
				wantStays(t, what, grove(), got, a)
				leaves := leavesOf(root)
				leaves[i] = b
				wantLeaves(t, got, a, level, leaves)
				wantLeaves(t, got, root, level, leavesOf(root))
			}
		}
	}
}

// wantStays: what was there has its address, and is held outside as ahead; of what is new the root alone is, once.
func wantStays(t *testing.T, what string, old, now api.Store, root int) {
	t.Helper()
	if len(now.Blocks) != len(old.Blocks) {
		t.Fatalf("%s: %d blocks, were %d", what, len(now.Blocks), len(old.Blocks))
	}
	ahead, _ := store.Outside(old)
	outside, e := store.Outside(now)
	if e != api.OK {
		t.Fatalf("%s: no right store: error %d", what, e)
	}
	for k, b := range old.Blocks {
		n := now.Blocks[k]
		b.Refs, n.Refs = 0, 0
		if old.Blocks[k].Refs != 0 && !store.Same(of(b), of(n)) {
			t.Errorf("%s: block %d is %v, was %v", what, k+1, n, b)
		}
		want := ahead[k]
		if k+1 == root {
			want = 1
		}
		if outside[k] != want {
			t.Errorf("%s: block %d is held outside %d times, want %d", what, k+1, outside[k], want)
		}
	}
}

func TestPutOfNothing(t *testing.T) {
	for level := range api.Top + 1 {
		for _, i := range []int{0, placesBelow(level) - 1} {
			// Nothing is made, so that no free block is asked for.
			for _, size := range []int{0, 5} {
				s, _ := store.New(size)
				got, a, e := tree.Put(s, 0, level, i, nil)
				if e != api.OK || a != 0 || !store.Same(got, s) {
					t.Errorf("level %d, at %d: root %d, error %d, %v", level, i, a, e, got)
				}
			}
			s, _ := store.New(level + 1)
			s, root, _ := tree.Put(s, 0, level, i, one)
			got, a, e := tree.Put(s, root, level, i, []byte{})
			if e != api.OK || a != 0 || !store.Same(got, s) {
				t.Errorf("level %d, the only leaf, at %d: root %d, error %d, %v", level, i, a, e, got)
			}
		}
	}
}

// Of no bytes where nothing stands, what is above is new all the same, but where all Kids are 0.
func TestPutOfNothingWhereNothingIs(t *testing.T) {
	s := of(leaf(1, one...), above(1, 1, 1, 0, 0, 0), above(1, 2, 2, 0, 0, 0), api.Block{}, api.Block{})
	got, a, e := tree.Put(s, 3, 2, 15, nil)
	want := of(leaf(1, one...), above(2, 1, 1, 0, 0, 0), above(1, 2, 2, 0, 0, 0), above(1, 2, 2, 0, 0, 0), api.Block{})
	if e != api.OK || a != 4 || !store.Same(got, want) {
		t.Errorf("beside what is there: root %d, error %d, %v, want %v", a, e, got, want)
	}
	got, a, e = tree.Put(s, 3, 2, 1, nil)
	want = of(leaf(2, one...), above(1, 1, 1, 0, 0, 0), above(1, 2, 2, 0, 0, 0), above(1, 1, 1, 0, 0, 0), above(1, 2, 4, 0, 0, 0))
	if e != api.OK || a != 5 || !store.Same(got, want) {
		t.Errorf("next to the leaf: root %d, error %d, %v, want %v", a, e, got, want)
	}
}

func TestPutOfTheSame(t *testing.T) {
	s := of(leaf(1, one...), above(1, 1, 0, 1, 0, 0), api.Block{}, api.Block{})
	got, a, e := tree.Put(s, 2, 1, 1, one)
	want := of(leaf(1, one...), above(1, 1, 0, 1, 0, 0), leaf(1, one...), above(1, 1, 0, 3, 0, 0))
	if e != api.OK || a != 4 || !store.Same(got, want) {
		t.Fatalf("root %d, error %d, %v, want %v", a, e, got, want)
	}
	if l, e := tree.Differ(got, 2, 4, 1); e != api.OK || len(l) != 0 {
		t.Errorf("Differ: %v, error %d", l, e)
	}
}

// A place of a block that stands twice below another is one place, not two.
func TestPutBelowWhatStandsTwice(t *testing.T) {
	s := of(leaf(2, one...), above(2, 1, 1, 0, 0, 1), above(1, 2, 2, 2, 0, 0), api.Block{}, api.Block{}, api.Block{})
	got, a, e := tree.Put(s, 3, 2, 3, two)
	want := of(leaf(3, one...), above(3, 1, 1, 0, 0, 1), above(1, 2, 2, 2, 0, 0), leaf(1, two...), above(1, 1, 1, 0, 0, 4), above(1, 2, 5, 2, 0, 0))
	if e != api.OK || a != 6 || !store.Same(got, want) {
		t.Errorf("root %d, error %d, %v, want %v", a, e, got, want)
	}
	if l, e := tree.Differ(got, 3, 6, 2); e != api.OK || !slices.Equal(l, []int{3}) {
		t.Errorf("Differ: %v, error %d", l, e)
	}
}

// The lowest free addresses are taken, wherever they are, from below on.
func TestPutIntoLastFreeBlocks(t *testing.T) {
	for level := range api.Top + 1 {
		for free := range level + 4 {
			s := withFree(free)
			ahead := whole(s)
			got, a, e := tree.Put(s, 0, level, placesBelow(level)-1, three)
			if whole(s) != ahead {
				t.Fatalf("level %d, %d free: what was handed in has changed", level, free)
			}
			if free <= level {
				if e != api.ErrFull {
					t.Errorf("level %d, %d free: error %d", level, free, e)
				}
				wantZero(t, "full", got, a)
				continue
			}
			if e != api.OK || a != 2*level+2 {
				t.Errorf("level %d, %d free: root %d, error %d", level, free, a, e)
			}
			wantStays(t, "last free", s, got, a)
			wantLeaves(t, got, a, level, map[int][]byte{placesBelow(level) - 1: three})
		}
	}
}

// withFree is a store of which every second block is free, until so many are.
func withFree(free int) api.Store {
	s := of(leaf(1, one...))
	for range free {
		s.Blocks = append(s.Blocks, api.Block{}, leaf(1, two...))
	}
	return s
}

func TestPutOfNothingWhereItIsFull(t *testing.T) {
	s := of(leaf(1, one...), leaf(1, two...), above(1, 1, 1, 0, 0, 2), above(1, 2, 3, 0, 0, 0), api.Block{})
	ahead := whole(s)
	got, a, e := tree.Put(s, 4, 2, 3, nil)
	if e != api.ErrFull || whole(s) != ahead {
		t.Errorf("one free, two needed: error %d, %v", e, s)
	}
	wantZero(t, "full", got, a)
	s.Blocks = append(s.Blocks, api.Block{})
	got, a, e = tree.Put(s, 4, 2, 3, nil)
	want := of(leaf(2, one...), leaf(1, two...), above(1, 1, 1, 0, 0, 2), above(1, 2, 3, 0, 0, 0), above(1, 1, 1, 0, 0, 0), above(1, 2, 5, 0, 0, 0))
	if e != api.OK || a != 6 || !store.Same(got, want) {
		t.Errorf("two free: root %d, error %d, %v, want %v", a, e, got, want)
	}
}

// What stands beside the new one is held once more, even above MaxRefs; the Make of a level above refuses that store then.
func TestPutBesideWhatIsHeldMost(t *testing.T) {
	s := of(leaf(api.MaxRefs, one...), above(1, 1, 1, 0, 0, 0), above(1, 2, 2, 0, 0, 0), api.Block{}, api.Block{})
	got, a, e := tree.Put(s, 2, 1, 3, two)
	want := of(leaf(api.MaxRefs+1, one...), above(1, 1, 1, 0, 0, 0), above(1, 2, 2, 0, 0, 0), leaf(1, two...), above(1, 1, 1, 0, 0, 4))
	if e != api.OK || a != 5 || !store.Same(got, want) {
		t.Errorf("by the root: root %d, error %d, %v, want %v", a, e, got, want)
	}
	if store.Check(got) != api.ErrRange {
		t.Errorf("what comes of it: error %d", store.Check(got))
	}
	// ErrRange is Check's, ahead of Make's ErrFull.
	for range 3 {
		got, a, e = tree.Put(s, 3, 2, 3, two)
		if e != api.ErrRange {
			t.Errorf("below the root: error %d", e)
		}
		wantZero(t, "below the root", got, a)
		s.Blocks = append(s.Blocks, api.Block{})
	}
	// One hold less is one that it may have.
	s.Blocks[0].Refs--
	if got, _, e = tree.Put(s, 3, 2, 3, two); e != api.OK || got.Blocks[0].Refs != api.MaxRefs {
		t.Errorf("as often as may be: error %d, %v", e, got)
	}
}

// A new leaf in the place of one that is held most holds that no more often.
func TestPutInPlaceOfWhatIsHeldMost(t *testing.T) {
	s := of(leaf(api.MaxRefs, one...), above(api.MaxRefs, 1, 1, 0, 0, 0), api.Block{}, api.Block{})
	got, a, e := tree.Put(s, 2, 1, 0, two)
	want := of(leaf(api.MaxRefs, one...), above(api.MaxRefs, 1, 1, 0, 0, 0), leaf(1, two...), above(1, 1, 3, 0, 0, 0))
	if e != api.OK || a != 4 || !store.Same(got, want) {
		t.Errorf("root %d, error %d, %v, want %v", a, e, got, want)
	}
}

// A whole tree has 64 leaves and 21 blocks above them; who keeps it and puts one leaf uses four blocks more.
func TestWholeTree(t *testing.T) {
	s, _ := store.New(api.MaxBlocks)
	root, want := 0, map[int][]byte{}
	for i := range 64 {
		b := []byte{byte(i), 1, 2, 3}
		next, a, e := tree.Put(s, root, api.Top, i, b)
		if e != api.OK {
			t.Fatalf("at %d: error %d", i, e)
		}
		if root != 0 {
			next, _ = store.Drop(next, root)
		}
		s, root, want[i] = next, a, b
	}
	wantLeaves(t, s, root, api.Top, want)
	if n, e := store.Used(s); n != 85 || e != api.OK {
		t.Errorf("Used: %d, error %d", n, e)
	}
	s, more, _ := tree.Put(s, root, api.Top, 33, one)
	if n, e := store.Used(s); n != 89 || e != api.OK {
		t.Errorf("Used, of both: %d, error %d", n, e)
	}
	if l, e := tree.Differ(s, root, more, api.Top); e != api.OK || !slices.Equal(l, []int{33}) {
		t.Errorf("Differ: %v, error %d", l, e)
	}
	for _, a := range []int{root, more} {
		s, _ = store.Drop(s, a)
	}
	if n, e := store.Used(s); n != 0 || e != api.OK {
		t.Errorf("Used, of none: %d, error %d", n, e)
	}
}

// known is a root, and what must be below it.
type known struct {
	root, level int
	leaves      map[int][]byte
}

func (k known) with(root, i int, b []byte) known {
	leaves := map[int][]byte{i: b}
	for j, old := range k.leaves {
		if j != i {
			leaves[j] = old
		}
	}
	return known{root, k.level, leaves}
}

func (k known) differ(other known) []int {
	var l []int
	for i := range placesBelow(k.level) {
		if !slices.Equal(k.leaves[i], other.leaves[i]) {
			l = append(l, i)
		}
	}
	return l
}

// Many Puts below many roots, some of which are dropped, against what each root must have.
func TestManyRoots(t *testing.T) {
	for seed := range int64(20) {
		r := rand.New(rand.NewSource(seed))
		s, _ := store.New(5 + r.Intn(80))
		all := []known{{0, 0, nil}, {0, 1, nil}, {0, 2, nil}, {0, 3, nil}}
		for range 150 {
			from := all[r.Intn(len(all))]
			i := r.Intn(placesBelow(from.level))
			b := [][]byte{nil, one, two, three, zero}[r.Intn(5)]
			got, a, e := tree.Put(s, from.root, from.level, i, b)
			want, at, wantE := bySteps(t, s, from.root, from.level, i, b)
			if e != wantE || a != at || !store.Same(got, want) {
				t.Fatalf("seed %d: root %d, error %d, want %d, %d", seed, a, e, at, wantE)
			}
			if e == api.OK {
				wantStays(t, "many", s, got, a)
				s = got
				all = append(all, from.with(a, i, b))
			}
			for e == api.ErrFull && len(all) > 4 && r.Intn(3) > 0 {
				k := 4 + r.Intn(len(all)-4)
				if all[k].root != 0 {
					s, _ = store.Drop(s, all[k].root)
				}
				all = slices.Delete(all, k, k+1)
			}
			agree(t, r, s, all)
		}
	}
}

func agree(t *testing.T, r *rand.Rand, s api.Store, all []known) {
	t.Helper()
	wantRight(t, s)
	x := all[r.Intn(len(all))]
	wantLeaves(t, s, x.root, x.level, x.leaves)
	for _, y := range all {
		if x.level != y.level {
			continue
		}
		if l, e := tree.Differ(s, x.root, y.root, x.level); e != api.OK || !slices.Equal(l, x.differ(y)) {
			t.Fatalf("Differ of %d and %d: %v, error %d, want %v", x.root, y.root, l, e, x.differ(y))
		}
	}
}

// lists are the lists of a store, whole: with their spare room.
func lists(s api.Store) []reflect.Value {
	l := []reflect.Value{reflect.ValueOf(s.Blocks)}
	for _, b := range s.Blocks {
		l = append(l, reflect.ValueOf(b.Kids), reflect.ValueOf(b.Bytes))
	}
	return l
}

func overlap(x, y reflect.Value) bool {
	size := func(v reflect.Value) uintptr { return uintptr(v.Cap()) * v.Type().Elem().Size() }
	return size(x) > 0 && size(y) > 0 && x.Pointer() < y.Pointer()+size(y) && y.Pointer() < x.Pointer()+size(x)
}

func wantApart(t *testing.T, what string, in, out []reflect.Value) {
	t.Helper()
	for i, x := range out {
		for _, y := range slices.Concat(in, out[i+1:]) {
			if overlap(x, y) {
				t.Fatalf("%s: lists share memory", what)
			}
		}
	}
}

// whole tells all of a store, with the spare room of its lists.
func whole(s api.Store) string {
	told := fmt.Sprint(len(s.Blocks), s.Blocks[:cap(s.Blocks)])
	for _, b := range s.Blocks {
		told += fmt.Sprint(b.Kids[:cap(b.Kids)], b.Bytes[:cap(b.Bytes)])
	}
	return told
}

func TestArgumentsAreOnlyRead(t *testing.T) {
	s := grove()
	s.Blocks = append(make([]api.Block, 0, len(s.Blocks)+2), s.Blocks...)
	b := append(make([]byte, 0, 9), three...)
	ahead := whole(s) + fmt.Sprint(b[:9])
	in := append(lists(s), reflect.ValueOf(b))
	for root, level := range levelOf {
		for i := range placesBelow(level) {
			for _, bytes := range [][]byte{b, b[:0], nil, b[:3]} {
				if got, _, e := tree.Put(s, root, level, i, bytes); e == api.OK {
					wantApart(t, "Put", in, lists(got))
				}
			}
			got, _ := tree.Get(s, root, level, i)
			wantApart(t, "Get", in, []reflect.Value{reflect.ValueOf(got)})
		}
		all, _ := tree.All(s, root, level)
		out := []reflect.Value{reflect.ValueOf(all)}
		for _, bytes := range all {
			out = append(out, reflect.ValueOf(bytes))
		}
		wantApart(t, "All", in, out)
		l, _ := tree.Differ(s, root, 0, level)
		wantApart(t, "Differ", in, []reflect.Value{reflect.ValueOf(l)})
	}
	if now := whole(s) + fmt.Sprint(b[:9]); now != ahead {
		t.Errorf("what was handed in was changed: %s, was %s", now, ahead)
	}
}

// The bytes that are put may be those of a block of the store.
func TestPutOfBytesOfTheStore(t *testing.T) {
	s := of(leaf(1, one...), above(1, 1, 1, 0, 0, 0), api.Block{}, api.Block{})
	got, a, e := tree.Put(s, 2, 1, 1, s.Blocks[0].Bytes)
	if e != api.OK {
		t.Fatalf("error %d", e)
	}
	wantApart(t, "Put", lists(s), lists(got))
	wantLeaves(t, got, a, 1, map[int][]byte{0: one, 1: one})
}

// A Put whose later Makes find no room leaves nothing of the earlier ones.
func TestRefusedPutLeavesNothingBehind(t *testing.T) {
	for used := range freeInGrove {
		s := grove()
		for i, left := 0, used; left > 0; i++ {
			if s.Blocks[i].Refs == 0 {
				s.Blocks[i] = leaf(1, three...)
				left--
			}
		}
		ahead := whole(s)
		got, a, e := tree.Put(s, 9, 3, 3, two)
		if full := used > 0; (e == api.ErrFull) != full || whole(s) != ahead {
			t.Errorf("%d free: error %d, %v", freeInGrove-used, e, s)
		}
		if e != api.OK {
			wantZero(t, "full", got, a)
		}
	}
}
