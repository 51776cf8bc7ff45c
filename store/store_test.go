package store_test

import (
	"fmt"
	"math"
	"math/rand"
	"reflect"
	"slices"
	"testing"

	"rookery/api"
	"rookery/store"
)

func leaf(refs int, b ...byte) api.Block {
	return api.Block{Refs: refs, Bytes: append(make([]byte, 0, 9), b...)}
}

func above(refs, level int, kids ...int) api.Block {
	return api.Block{Refs: refs, Level: level, Kids: append(make([]int, 0, 9), kids...)}
}

func of(l ...api.Block) api.Store { return api.Store{Blocks: l} }

// tower is a right store with a block of each level, a free one among them, and a leaf that stands twice among Kids.
func tower() api.Store {
	return of(
		leaf(3, 1, 2, 3, 4),
		above(1, 1, 1, 0, 1, 0),
		api.Block{},
		above(2, 2, 0, 2, 0, 0),
		above(1, 3, 0, 0, 0, 4),
		leaf(2, 0, 0, 0, 0),
	)
}

func copyOf(s api.Store) api.Store {
	l := slices.Clone(s.Blocks)
	for i := range l {
		l[i].Kids = slices.Clone(l[i].Kids)
		l[i].Bytes = slices.Clone(l[i].Bytes)
	}
	return api.Store{Blocks: l}
}

func wantZero(t *testing.T, what string, l ...any) {
	t.Helper()
	for _, x := range l {
		if !reflect.ValueOf(x).IsZero() {
			t.Errorf("%s: %v beside an error", what, x)
		}
	}
}

func wantRight(t *testing.T, s api.Store) {
	t.Helper()
	if e := store.Check(s); e != api.OK {
		t.Fatalf("not a right store: error %d: %v", e, s)
	}
}

func TestNew(t *testing.T) {
	for _, n := range []int{0, 1, 7, api.MaxBlocks} {
		s, e := store.New(n)
		if e != api.OK || len(s.Blocks) != n || !store.Same(s, api.Store{Blocks: make([]api.Block, n)}) {
			t.Errorf("New(%d): %d blocks, error %d", n, len(s.Blocks), e)
		}
		wantRight(t, s)
		if used, e := store.Used(s); used != 0 || e != api.OK {
			t.Errorf("Used of New(%d): %d, error %d", n, used, e)
		}
	}
	for _, n := range []int{-1, api.MaxBlocks + 1, math.MinInt, math.MaxInt} {
		s, e := store.New(n)
		if e != api.ErrRange {
			t.Errorf("New(%d): error %d", n, e)
		}
		wantZero(t, "New", s)
	}
}

func TestRightStores(t *testing.T) {
	most := make([]api.Block, api.MaxBlocks)
	for i := range most {
		most[i] = leaf(api.MaxRefs, 1, 2, 3, 4)
	}
	for what, s := range map[string]api.Store{
		"nothing":                      {},
		"no blocks":                    of(),
		"tower":                        tower(),
		"as many as may be":            of(most...),
		"free, with empty lists":       of(api.Block{Kids: []int{}, Bytes: []byte{}}),
		"a leaf with an empty list":    of(api.Block{Refs: 1, Kids: []int{}, Bytes: make([]byte, 4)}),
		"held as often as among Kids":  of(leaf(4, 1, 1, 1, 1), above(1, 1, 1, 1, 1, 1)),
		"a kid behind the one above":   of(above(1, 1, 0, 0, 0, 2), leaf(1, 1, 1, 1, 1)),
		"nobody outside holds the top": of(leaf(1, 1, 1, 1, 1), above(1, 1, 1, 0, 0, 0)),
	} {
		if e := store.Check(s); e != api.OK {
			t.Errorf("%s: error %d", what, e)
		}
	}
}

// Blocks that are wrong by themselves in a store whose first is a leaf, whose second is free, whose third has Level 1.
func wrongBlocks() []struct {
	what string
	b    api.Block
	want api.Errno
} {
	return []struct {
		what string
		b    api.Block
		want api.Errno
	}{
		{"free, with a level", api.Block{Level: 1}, api.ErrForm},
		{"free, with a level that none has", api.Block{Level: -1}, api.ErrForm},
		{"free, with bytes", leaf(0, 1, 2, 3, 4), api.ErrForm},
		{"free, with a nought", leaf(0, 0), api.ErrForm},
		{"free, with kids", above(0, 0, 1), api.ErrForm},
		{"free, with kids that are 0", above(0, 0, 0, 0, 0, 0), api.ErrForm},
		{"free, with a level too great", api.Block{Level: api.Top + 1}, api.ErrForm},
		{"held less than never", leaf(-1, 1, 2, 3, 4), api.ErrRange},
		{"held far less than never", leaf(math.MinInt, 1, 2, 3, 4), api.ErrRange},
		{"held too often", leaf(api.MaxRefs+1, 1, 2, 3, 4), api.ErrRange},
		{"held far too often", leaf(math.MaxInt, 1, 2, 3, 4), api.ErrRange},
		{"held too often, and of no form", leaf(api.MaxRefs+1, 1), api.ErrRange},
		{"held too often, and with nobody below", above(api.MaxRefs+1, 1, 9, 0, 0, 0), api.ErrRange},
		{"level below 0", above(1, -1, 1, 0, 0, 0), api.ErrRange},
		{"level above Top", above(1, api.Top+1, 1, 0, 0, 0), api.ErrRange},
		{"lowest level", api.Block{Refs: 1, Level: math.MinInt}, api.ErrRange},
		{"greatest level", api.Block{Refs: 1, Level: math.MaxInt}, api.ErrRange},
		{"level above Top, and of no form", api.Block{Refs: 1, Level: api.Top + 1, Bytes: []byte{1}}, api.ErrRange},
		{"leaf without bytes", leaf(1), api.ErrForm},
		{"leaf of three bytes", leaf(1, 1, 2, 3), api.ErrForm},
		{"leaf of five bytes", leaf(1, 1, 2, 3, 4, 5), api.ErrForm},
		{"leaf with a kid", api.Block{Refs: 1, Kids: []int{1}, Bytes: make([]byte, 4)}, api.ErrForm},
		{"leaf with kids that are 0", api.Block{Refs: 1, Kids: make([]int, 4), Bytes: make([]byte, 4)}, api.ErrForm},
		{"no kids", above(1, 1), api.ErrForm},
		{"three kids", above(1, 1, 1, 0, 0), api.ErrForm},
		{"five kids", above(1, 1, 1, 0, 0, 0, 0), api.ErrForm},
		{"three kids, none of them there", above(1, 1, 9, 9, 9), api.ErrForm},
		{"kids and a byte", api.Block{Refs: 1, Level: 1, Kids: []int{1, 0, 0, 0}, Bytes: []byte{0}}, api.ErrForm},
		{"a kid that nobody can be", above(1, 1, -1, 0, 0, 0), api.ErrWho},
		{"a kid behind all", above(1, 1, 0, 0, 0, 5), api.ErrWho},
		{"lowest kid", above(1, 1, math.MinInt, 0, 0, 0), api.ErrWho},
		{"greatest kid", above(1, 1, 0, math.MaxInt, 0, 0), api.ErrWho},
		{"a kid that is free", above(1, 1, 0, 0, 2, 0), api.ErrWho},
		{"a kid of the same level", above(1, 1, 1, 3, 0, 0), api.ErrWho},
		{"a kid two levels below", above(1, 2, 3, 1, 0, 0), api.ErrWho},
		{"itself", above(1, 1, 4, 0, 0, 0), api.ErrWho},
		{"all kids 0", above(1, 1, 0, 0, 0, 0), api.ErrForm},
		{"all kids 0 at the top", above(1, api.Top, 0, 0, 0, 0), api.ErrForm},
	}
}

func withLast(b api.Block) api.Store {
	return of(leaf(9, 1, 1, 1, 1), api.Block{}, above(2, 1, 1, 0, 0, 0), b)
}

func TestWrongBlocks(t *testing.T) {
	wantRight(t, withLast(api.Block{}))
	for _, c := range wrongBlocks() {
		if e := store.Check(withLast(c.b)); e != c.want {
			t.Errorf("%s: error %d, want %d", c.what, e, c.want)
		}
	}
}

func TestFirstWrongBlockIsTold(t *testing.T) {
	for _, c := range wrongBlocks() {
		for _, d := range wrongBlocks() {
			s := withLast(c.b)
			s.Blocks = append(s.Blocks, d.b)
			if c.what == "a kid behind all" {
				continue // with one more block it isn't
			}
			if e := store.Check(s); e != c.want {
				t.Errorf("%s, then %s: error %d, want %d", c.what, d.what, e, c.want)
			}
		}
	}
}

func TestMoreThanRefsAmongKids(t *testing.T) {
	for what, s := range map[string]api.Store{
		"once too often":              of(leaf(1, 1, 1, 1, 1), above(1, 1, 1, 1, 0, 0)),
		"by two blocks":               of(leaf(1, 1, 1, 1, 1), above(1, 1, 1, 0, 0, 0), above(1, 1, 1, 0, 0, 0)),
		"the last one, at the top":    of(leaf(1, 1, 1, 1, 1), above(1, 1, 1, 0, 0, 0), above(1, 2, 2, 2, 0, 0)),
		"held less than often enough": of(above(1, 1, 2, 2, 2, 2), leaf(3, 1, 1, 1, 1)),
	} {
		if e := store.Check(s); e != api.ErrHeld {
			t.Errorf("%s: error %d", what, e)
		}
		for _, c := range wrongBlocks() {
			both := copyOf(s)
			both.Blocks = append(both.Blocks, c.b)
			// Whatever is wrong with a block comes ahead of ErrHeld; some of these aren't wrong in this store.
			alone := copyOf(both)
			for i := range len(s.Blocks) {
				alone.Blocks[i].Refs = 100
			}
			if want := store.Check(alone); want != api.OK && store.Check(both) != want {
				t.Errorf("%s, and %s: error %d, want %d", what, c.what, store.Check(both), want)
			}
		}
	}
}

func TestTooManyBlocks(t *testing.T) {
	for _, n := range []int{api.MaxBlocks + 1, 5000} {
		s := api.Store{Blocks: make([]api.Block, n)}
		if e := store.Check(s); e != api.ErrMany {
			t.Errorf("%d blocks: error %d", n, e)
		}
		s.Blocks[0] = leaf(-1, 1)
		s.Blocks[n-1] = above(1, 9, 7)
		if e := store.Check(s); e != api.ErrMany {
			t.Errorf("%d blocks, some of them wrong: error %d", n, e)
		}
	}
}

// What Check says comes ahead of all that the others say.
func TestOthersSayChecksErrorFirst(t *testing.T) {
	wrong := []api.Store{
		{Blocks: make([]api.Block, api.MaxBlocks+1)},
		of(leaf(1, 1, 1, 1, 1), above(1, 1, 1, 1, 0, 0)),
		of(leaf(1, 1, 1, 1, 1), api.Block{Level: 3}),
		of(leaf(1, 1, 1, 1, 1), above(1, 1, 3, 0, 0, 0), leaf(-1, 1, 1, 1, 1)),
	}
	for _, c := range wrongBlocks() {
		wrong = append(wrong, withLast(c.b))
	}
	for i, s := range wrong {
		want := store.Check(s)
		what := fmt.Sprint("wrong store ", i)
		if want == api.OK {
			t.Fatalf("%s isn't", what)
		}
		told := map[string]api.Errno{}
		outside, e := store.Outside(s)
		told["Outside"] = e
		used, e := store.Used(s)
		told["Used"] = e
		reach, e := store.Reach(s, []int{1, -1})
		told["Reach"] = e
		wantZero(t, what, outside, used, reach)
		for _, b := range []api.Block{leaf(1, 1, 1, 1, 1), above(1, 9)} {
			made, a, e := store.Make(s, b)
			told["Make"] = e
			wantZero(t, what, made, a)
			for _, a := range []int{0, 1} {
				kept, e := store.Keep(s, a)
				told["Keep"] = e
				dropped, e := store.Drop(s, a)
				told["Drop"] = e
				wantZero(t, what, kept, dropped)
				for name, e := range told {
					if e != want {
						t.Errorf("%s: %s says %d, want %d", what, name, e, want)
					}
				}
			}
		}
	}
}

func TestOutsideAndUsed(t *testing.T) {
	got, e := store.Outside(tower())
	if want := []int{1, 0, 0, 1, 1, 2}; e != api.OK || !slices.Equal(got, want) {
		t.Errorf("Outside: %v, error %d, want %v", got, e, want)
	}
	if n, e := store.Used(tower()); n != 5 || e != api.OK {
		t.Errorf("Used: %d, error %d", n, e)
	}
	if got, e := store.Outside(api.Store{}); len(got) != 0 || e != api.OK {
		t.Errorf("Outside of no blocks: %v, error %d", got, e)
	}
	if got, e := store.Outside(of(leaf(api.MaxRefs, 1, 1, 1, 1), above(api.MaxRefs, 1, 1, 0, 1, 1))); e != api.OK || !slices.Equal(got, []int{api.MaxRefs - 3, api.MaxRefs}) {
		t.Errorf("Outside of what is held most: %v, error %d", got, e)
	}
	full := make([]api.Block, api.MaxBlocks)
	for i := range full {
		full[i] = leaf(1, 1, 2, 3, 4)
	}
	if n, e := store.Used(of(full...)); n != api.MaxBlocks || e != api.OK {
		t.Errorf("Used of a full store: %d, error %d", n, e)
	}
}

func TestReach(t *testing.T) {
	for _, c := range []struct {
		roots, want []int
	}{
		{nil, nil},
		{[]int{}, nil},
		{[]int{0, 0}, nil},
		{[]int{1}, []int{1}},
		{[]int{6, 6, 0, 6}, []int{6}},
		{[]int{2}, []int{1, 2}},
		{[]int{5}, []int{1, 2, 4, 5}},
		{[]int{6, 5}, []int{1, 2, 4, 5, 6}},
		{[]int{5, 4, 2, 1, 5}, []int{1, 2, 4, 5}},
		{slices.Repeat([]int{0, 4}, 1000), []int{1, 2, 4}},
	} {
		if got, e := store.Reach(tower(), c.roots); e != api.OK || !slices.Equal(got, c.want) {
			t.Errorf("Reach of %v: %v, error %d, want %v", c.roots, got, e, c.want)
		}
	}
	for _, roots := range [][]int{{3}, {7}, {-1}, {5, 0, 3}, {math.MinInt}, {math.MaxInt}, {1, math.MaxInt}} {
		got, e := store.Reach(tower(), roots)
		if e != api.ErrWho {
			t.Errorf("Reach of %v: error %d", roots, e)
		}
		wantZero(t, "Reach", got)
	}
	if got, e := store.Reach(api.Store{}, []int{0}); len(got) != 0 || e != api.OK {
		t.Errorf("Reach in no blocks: %v, error %d", got, e)
	}
}

func TestSame(t *testing.T) {
	if !store.Same(tower(), tower()) || !store.Same(api.Store{}, of()) {
		t.Error("what is alike isn't told so")
	}
	if !store.Same(of(api.Block{}), of(api.Block{Kids: []int{}, Bytes: []byte{}})) {
		t.Error("lists that have nothing in them are told unlike")
	}
	for i := range tower().Blocks {
		for what, turn := range map[string]func(b *api.Block){
			"Refs":       func(b *api.Block) { b.Refs++ },
			"Level":      func(b *api.Block) { b.Level-- },
			"one kid":    func(b *api.Block) { b.Kids = append(b.Kids, 0) },
			"one byte":   func(b *api.Block) { b.Bytes = append(b.Bytes, 0) },
			"first kid":  func(b *api.Block) { b.Kids = append([]int{7}, b.Kids[min(1, len(b.Kids)):]...) },
			"first byte": func(b *api.Block) { b.Bytes = append([]byte{7}, b.Bytes[min(1, len(b.Bytes)):]...) },
		} {
			s := tower()
			turn(&s.Blocks[i])
			if store.Same(s, tower()) || store.Same(tower(), s) {
				t.Errorf("block %d, %s: told alike", i+1, what)
			}
			other := tower()
			turn(&other.Blocks[i])
			if !store.Same(s, other) {
				t.Errorf("block %d, %s, in both: told unlike", i+1, what)
			}
		}
	}
	more := tower()
	more.Blocks = append(more.Blocks, api.Block{})
	if store.Same(more, tower()) || store.Same(tower(), more) {
		t.Error("one free block more: told alike")
	}
	great := api.Store{Blocks: make([]api.Block, api.MaxBlocks+9)}
	great.Blocks[3] = above(-5, 77, 1, 2)
	if !store.Same(great, copyOf(great)) {
		t.Error("alike, and no right stores: told unlike")
	}
}

func TestMake(t *testing.T) {
	for _, c := range []struct {
		what string
		b    api.Block
		held map[int]int // the Refs of what is below
	}{
		{"a leaf", leaf(1, 9, 8, 7, 6), nil},
		{"a leaf whose Refs say otherwise", leaf(-7, 9, 8, 7, 6), nil},
		{"a leaf whose Refs say nothing", leaf(0, 0, 0, 0, 0), nil},
		{"a leaf whose Refs say far too much", leaf(math.MaxInt, 0, 0, 0, 0), nil},
		{"level 1, one kid twice", above(0, 1, 1, 6, 0, 1), map[int]int{1: 5, 6: 3}},
		{"level 2", above(3, 2, 0, 0, 0, 2), map[int]int{2: 2}},
		{"level 3, one kid four times", above(0, 3, 4, 4, 4, 4), map[int]int{4: 6}},
	} {
		got, a, e := store.Make(tower(), c.b)
		want := tower()
		want.Blocks[2] = c.b
		want.Blocks[2].Refs = 1
		for kid, refs := range c.held {
			want.Blocks[kid-1].Refs = refs
		}
		if e != api.OK || a != 3 || !store.Same(got, want) {
			t.Errorf("%s: at %d, error %d, %v, want %v", c.what, a, e, got, want)
		}
		wantRight(t, got)
	}
}

func TestMakeOfWrongBlocks(t *testing.T) {
	for _, s := range []api.Store{withLast(api.Block{}), withLast(above(1, 1, 1, 0, 0, 0))} {
		for _, c := range wrongBlocks() {
			b := c.b
			b.Refs = 1
			want := store.Check(withLast(b))
			if want == api.OK {
				continue // wrong by its Refs alone, and they are not asked for
			}
			got, a, e := store.Make(s, b)
			if e != want {
				t.Errorf("%s: error %d, want %d", c.what, e, want)
			}
			wantZero(t, c.what, got, a)
			b.Refs = c.b.Refs
			if _, _, e := store.Make(s, b); e != want {
				t.Errorf("%s, with its Refs: error %d, want %d", c.what, e, want)
			}
		}
	}
}

func TestMakeWhereNoneIsFree(t *testing.T) {
	full := of(leaf(1, 1, 1, 1, 1), above(1, 1, 1, 0, 0, 0))
	for _, s := range []api.Store{full, {}, of()} {
		got, a, e := store.Make(s, leaf(1, 1, 2, 3, 4))
		if e != api.ErrFull {
			t.Errorf("error %d", e)
		}
		wantZero(t, "full", got, a)
		for _, c := range []struct {
			b    api.Block
			want api.Errno
		}{
			{leaf(1, 1), api.ErrForm},
			{above(1, -1), api.ErrRange},
			{above(1, 1, 3, 0, 0, 0), api.ErrWho},
			{above(1, 1, 0, 0, 0, 0), api.ErrForm},
		} {
			if _, _, e := store.Make(s, c.b); e != c.want {
				t.Errorf("full, and a wrong block: error %d, want %d", e, c.want)
			}
		}
	}
}

func TestMakeFillsAllThatIsFree(t *testing.T) {
	s, _ := store.New(api.MaxBlocks)
	for i := range api.MaxBlocks {
		next, a, e := store.Make(s, leaf(0, byte(i), 1, 1, 1))
		if e != api.OK || a != i+1 {
			t.Fatalf("the block %d: at %d, error %d", i+1, a, e)
		}
		s = next
	}
	if _, _, e := store.Make(s, leaf(0, 1, 1, 1, 1)); e != api.ErrFull {
		t.Errorf("one more: error %d", e)
	}
	s, e := store.Drop(s, 222)
	if e != api.OK {
		t.Fatalf("Drop: error %d", e)
	}
	if _, a, e := store.Make(s, leaf(0, 1, 1, 1, 1)); a != 222 || e != api.OK {
		t.Errorf("in the only free place: at %d, error %d", a, e)
	}
}

// What is held once more may come to be above MaxRefs: then there is an answer, and it is no right store.
func TestHeldAboveMaxRefs(t *testing.T) {
	s := of(leaf(api.MaxRefs, 1, 1, 1, 1), api.Block{})
	kept, e := store.Keep(s, 1)
	if e != api.OK || kept.Blocks[0].Refs != api.MaxRefs+1 || store.Check(kept) != api.ErrRange {
		t.Errorf("Keep: error %d, %v", e, kept)
	}
	made, a, e := store.Make(s, above(0, 1, 1, 1, 0, 1))
	if e != api.OK || a != 2 || made.Blocks[0].Refs != api.MaxRefs+3 || store.Check(made) != api.ErrRange {
		t.Errorf("Make: at %d, error %d, %v", a, e, made)
	}
	if _, e := store.Drop(kept, 1); e != api.ErrRange {
		t.Errorf("Drop of what is held too often: error %d", e)
	}
}

func TestKeep(t *testing.T) {
	for _, a := range []int{1, 2, 4, 5, 6} {
		got, e := store.Keep(tower(), a)
		want := tower()
		want.Blocks[a-1].Refs++
		if e != api.OK || !store.Same(got, want) {
			t.Errorf("Keep of %d: error %d, %v, want %v", a, e, got, want)
		}
		back, e := store.Drop(got, a)
		if e != api.OK || !store.Same(back, tower()) {
			t.Errorf("Drop of Keep of %d: error %d, %v", a, e, back)
		}
	}
}

func TestNobodyAtAnAddress(t *testing.T) {
	for _, a := range []int{0, -1, 3, 7, math.MinInt, math.MaxInt} {
		kept, e := store.Keep(tower(), a)
		if e != api.ErrWho {
			t.Errorf("Keep of %d: error %d", a, e)
		}
		dropped, f := store.Drop(tower(), a)
		if f != api.ErrWho {
			t.Errorf("Drop of %d: error %d", a, f)
		}
		wantZero(t, "nobody", kept, dropped)
	}
	if _, e := store.Drop(api.Store{}, 1); e != api.ErrWho {
		t.Errorf("Drop in no blocks: error %d", e)
	}
}

func TestDropOfWhatNobodyOutsideHolds(t *testing.T) {
	s := of(leaf(2, 1, 1, 1, 1), above(1, 1, 1, 1, 0, 0), above(1, 2, 2, 0, 0, 0))
	for _, a := range []int{1, 2} {
		got, e := store.Drop(s, a)
		if e != api.ErrHeld {
			t.Errorf("Drop of %d: error %d", a, e)
		}
		wantZero(t, "held", got)
	}
}

func TestDropFreesWhatIsBelow(t *testing.T) {
	s := of(leaf(2, 1, 1, 1, 1), above(1, 1, 1, 0, 0, 1), above(1, 2, 0, 2, 0, 0), above(1, 3, 0, 0, 3, 0), leaf(1, 5, 5, 5, 5))
	got, e := store.Drop(s, 4)
	if want := of(api.Block{}, api.Block{}, api.Block{}, api.Block{}, leaf(1, 5, 5, 5, 5)); e != api.OK || !store.Same(got, want) {
		t.Errorf("all: error %d, %v", e, got)
	}
	s.Blocks[0].Refs = 3
	got, e = store.Drop(s, 4)
	if want := of(leaf(1, 1, 1, 1, 1), api.Block{}, api.Block{}, api.Block{}, leaf(1, 5, 5, 5, 5)); e != api.OK || !store.Same(got, want) {
		t.Errorf("all but a leaf that is held: error %d, %v", e, got)
	}
	s.Blocks[1].Refs = 2
	got, e = store.Drop(s, 4)
	if want := of(leaf(3, 1, 1, 1, 1), above(1, 1, 1, 0, 0, 1), api.Block{}, api.Block{}, leaf(1, 5, 5, 5, 5)); e != api.OK || !store.Same(got, want) {
		t.Errorf("all down to one that is held: error %d, %v", e, got)
	}
	got, e = store.Drop(s, 2)
	s.Blocks[1].Refs = 1
	if e != api.OK || !store.Same(got, s) {
		t.Errorf("one that is held by another: error %d, %v", e, got)
	}
}

func TestDropOfMakeIsWhatWas(t *testing.T) {
	for _, b := range []api.Block{leaf(0, 1, 2, 3, 4), above(0, 1, 1, 0, 1, 6), above(0, 2, 2, 2, 2, 2), above(0, 3, 0, 0, 4, 0)} {
		made, a, e := store.Make(tower(), b)
		if e != api.OK {
			t.Fatalf("Make: error %d", e)
		}
		got, e := store.Drop(made, a)
		if e != api.OK || !store.Same(got, tower()) {
			t.Errorf("level %d: error %d, %v", b.Level, e, got)
		}
	}
}

// model knows what was made and how often each is held from outside, and works all else out of that.
type model struct {
	size    int
	b       map[int]api.Block
	outside map[int]int
}

func (m *model) store() api.Store {
	alive := map[int]bool{}
	for again := true; again; {
		again = false
		for a := range m.b {
			if !alive[a] && (m.outside[a] > 0 || m.below(alive, a)) {
				alive[a], again = true, true
			}
		}
	}
	s := api.Store{Blocks: make([]api.Block, m.size)}
	for a := range m.b {
		if !alive[a] {
			delete(m.b, a)
		}
	}
	for a, b := range m.b {
		s.Blocks[a-1].Level, s.Blocks[a-1].Kids, s.Blocks[a-1].Bytes = b.Level, b.Kids, b.Bytes
		s.Blocks[a-1].Refs += m.outside[a]
		for _, kid := range b.Kids {
			if kid != 0 {
				s.Blocks[kid-1].Refs++
			}
		}
	}
	return s
}

func (m *model) below(alive map[int]bool, a int) bool {
	for x := range alive {
		if slices.Contains(m.b[x].Kids, a) {
			return true
		}
	}
	return false
}

func (m *model) lowestFree() int {
	for a := 1; a <= m.size; a++ {
		if _, there := m.b[a]; !there {
			return a
		}
	}
	return 0
}

// ofLevel makes up a block whose kids are there, if some of the level below are.
func (m *model) ofLevel(r *rand.Rand, level int) api.Block {
	var some []int
	for a := 1; a <= m.size; a++ {
		if b, there := m.b[a]; there && b.Level == level-1 {
			some = append(some, a)
		}
	}
	if level == 0 || len(some) == 0 {
		return leaf(0, byte(r.Intn(256)), 0, 1, 2)
	}
	b := above(0, level, 0, 0, 0, 0)
	for range 1 + r.Intn(4) {
		b.Kids[r.Intn(4)] = some[r.Intn(len(some))]
	}
	return b
}

func TestAgainstWhatIsHeld(t *testing.T) {
	for seed := range int64(60) {
		r := rand.New(rand.NewSource(seed))
		m := &model{size: 1 + r.Intn(30), b: map[int]api.Block{}, outside: map[int]int{}}
		s, _ := store.New(m.size)
		for step := range 200 {
			var e, want api.Errno
			next := s
			a := r.Intn(m.size + 2)
			_, there := m.b[a]
			switch r.Intn(5) {
			case 0, 1, 2:
				b := m.ofLevel(r, r.Intn(api.Top+1))
				free := m.lowestFree()
				next, a, e = store.Make(s, b)
				if free == 0 {
					want = api.ErrFull
				} else if a != free {
					t.Fatalf("seed %d, step %d: made at %d, want %d", seed, step, a, free)
				} else {
					m.b[a] = b
					m.outside[a] = 1
				}
			case 3:
				next, e = store.Keep(s, a)
				if !there {
					want = api.ErrWho
				} else {
					m.outside[a]++
				}
			case 4:
				next, e = store.Drop(s, a)
				if !there {
					want = api.ErrWho
				} else if m.outside[a] == 0 {
					want = api.ErrHeld
				} else {
					m.outside[a]--
				}
			}
			if e != want {
				t.Fatalf("seed %d, step %d: error %d, want %d", seed, step, e, want)
			}
			if e != api.OK {
				continue
			}
			s = next
			if w := m.store(); !store.Same(s, w) {
				t.Fatalf("seed %d, step %d: %v, want %v", seed, step, s, w)
			}
			m.agree(t, r, s)
		}
	}
}

func (m *model) agree(t *testing.T, r *rand.Rand, s api.Store) {
	t.Helper()
	wantRight(t, s)
	outside := make([]int, m.size)
	for a := range m.b {
		outside[a-1] = m.outside[a]
	}
	if got, e := store.Outside(s); e != api.OK || !slices.Equal(got, outside) {
		t.Fatalf("Outside: %v, error %d, want %v", got, e, outside)
	}
	if got, e := store.Used(s); e != api.OK || got != len(m.b) {
		t.Fatalf("Used: %d, error %d, want %d", got, e, len(m.b))
	}
	var roots []int
	for a := range m.b {
		if m.outside[a] > 0 {
			roots = append(roots, a)
		}
	}
	r.Shuffle(len(roots), func(i, j int) { roots[i], roots[j] = roots[j], roots[i] })
	// What nobody outside holds, nor anything that is held so, is free: so all that is there is reached.
	if got, e := store.Reach(s, roots); e != api.OK || len(got) != len(m.b) || !slices.IsSorted(got) {
		t.Fatalf("Reach of all that is held: %v, error %d, want %d", got, e, len(m.b))
	}
}

// lists are the lists of a store, whole: with their spare room.
func lists(s api.Store) []reflect.Value {
	l := []reflect.Value{reflect.ValueOf(s.Blocks)}
	for _, b := range s.Blocks {
		l = append(l, reflect.ValueOf(b.Kids), reflect.ValueOf(b.Bytes))
	}
	return l
}

func overlap(x, y reflect.Value) bool {
	size := func(v reflect.Value) uintptr { return uintptr(v.Cap()) * v.Type().Elem().Size() }
	return size(x) > 0 && size(y) > 0 && x.Pointer() < y.Pointer()+size(y) && y.Pointer() < x.Pointer()+size(x)
}

func wantApart(t *testing.T, what string, in, out []reflect.Value) {
	t.Helper()
	for i, x := range out {
		for _, y := range slices.Concat(in, out[i+1:]) {
			if overlap(x, y) {
				t.Fatalf("%s: lists share memory", what)
			}
		}
	}
}

// roomy is s with spare room behind its blocks; tower's lists have some already.
func roomy(s api.Store) api.Store {
	return api.Store{Blocks: append(make([]api.Block, 0, len(s.Blocks)+2), s.Blocks...)}
}

func whole(s api.Store) string {
	told := fmt.Sprint(s.Blocks[:cap(s.Blocks)])
	for _, b := range s.Blocks {
		told += fmt.Sprint(b.Kids[:cap(b.Kids)], b.Bytes[:cap(b.Bytes)])
	}
	return told
}

func TestArgumentsAreOnlyRead(t *testing.T) {
	s := roomy(tower())
	s.Blocks[1].Kids = s.Blocks[1].Kids[:4:6]
	roots := append(make([]int, 0, 6), 5, 0, 6, 5)
	b := above(7, 1, 6, 0, 1, 1)
	ahead := whole(s) + fmt.Sprint(roots[:6], b, b.Kids[:cap(b.Kids)])
	in := append(lists(s), reflect.ValueOf(roots), reflect.ValueOf(b.Kids))

	made, _, e1 := store.Make(s, b)
	leafMade, _, e2 := store.Make(s, leaf(1, 5, 6, 7, 8))
	kept, e3 := store.Keep(s, 1)
	dropped, e4 := store.Drop(s, 5)
	for i, e := range []api.Errno{e1, e2, e3, e4} {
		if e != api.OK {
			t.Fatalf("call %d: error %d", i, e)
		}
	}
	for what, got := range map[string]api.Store{"Make": made, "Make of a leaf": leafMade, "Keep": kept, "Drop": dropped} {
		wantApart(t, what, in, lists(got))
	}
	outside, _ := store.Outside(s)
	reach, _ := store.Reach(s, roots)
	wantApart(t, "Outside and Reach", in, []reflect.Value{reflect.ValueOf(outside), reflect.ValueOf(reach)})
	store.Check(s)
	store.Used(s)
	store.Same(s, made)
	store.Make(s, above(1, 1, 3, 0, 0, 0))
	store.Drop(s, 2)
	store.Keep(s, 99)
	if now := whole(s) + fmt.Sprint(roots[:6], b, b.Kids[:cap(b.Kids)]); now != ahead {
		t.Errorf("what was handed in was changed: %s, was %s", now, ahead)
	}
}

// Lists that are handed in may share memory with each other; those of the answer don't.
func TestSharedListsComeApart(t *testing.T) {
	bytes := []byte{1, 2, 3, 4, 5}
	kids := []int{1, 0, 2, 0}
	s := of(api.Block{Refs: 2, Bytes: bytes[:4]}, api.Block{Refs: 2, Bytes: bytes[1:]}, api.Block{Refs: 1, Level: 1, Kids: kids}, api.Block{Refs: 1, Level: 1, Kids: kids}, api.Block{})
	got, a, e := store.Make(s, api.Block{Level: 1, Kids: kids})
	if e != api.OK || a != 5 || !slices.Equal(got.Blocks[1].Bytes, []byte{2, 3, 4, 5}) {
		t.Fatalf("at %d, error %d, %v", a, e, got)
	}
	wantApart(t, "Make", lists(s), lists(got))
}
