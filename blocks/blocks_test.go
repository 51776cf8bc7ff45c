package blocks_test

import (
	"testing"

	"rookery/api"
	"rookery/blocks"
	"rookery/store"
)

func small() api.Store {
	return api.Store{Blocks: []api.Block{
		{Refs: 3, Bytes: []byte{1, 2, 3, 4}},
		{Refs: 1, Level: 1, Kids: []int{1, 0, 0, 1}},
	}}
}

func withRoom() api.Store {
	s := small()
	s.Blocks = append(s.Blocks, api.Block{})
	return s
}

func TestInPlace(t *testing.T) {
	s := withRoom()
	a, e := blocks.Make(&s, api.Block{Level: 2, Kids: []int{2, 0, 0, 0}})
	if e != api.OK || a != 3 || s.Blocks[1].Refs != 2 {
		t.Fatalf("Make: at %d, error %d, %v", a, e, s)
	}
	if e := blocks.Keep(&s, 3); e != api.OK || s.Blocks[2].Refs != 2 {
		t.Fatalf("Keep: error %d, %v", e, s)
	}
	for range 2 {
		if e := blocks.Drop(&s, 3); e != api.OK {
			t.Fatalf("Drop: error %d", e)
		}
	}
	if !store.Same(s, withRoom()) {
		t.Errorf("Drop of all that was held: %v", s)
	}
}

func TestShift(t *testing.T) {
	s := small()
	blocks.Shift(&s, []int{0, 1, 2, 1}, []int{0, 1, 2, 1})
	if !store.Same(s, small()) {
		t.Errorf("of the same: %v", s)
	}
	// What is held once more first is not free in between, and may be above the most.
	s.Blocks[1].Refs = api.MaxRefs
	blocks.Shift(&s, []int{2, 2}, nil)
	if s.Blocks[1].Refs != api.MaxRefs+2 {
		t.Errorf("above the most: %v", s)
	}
	s = small()
	blocks.Shift(&s, []int{1}, []int{2, 1})
	if want := (api.Store{Blocks: []api.Block{{Refs: 1, Bytes: []byte{1, 2, 3, 4}}, {}}}); !store.Same(s, want) {
		t.Errorf("of what is above: %v, want %v", s, want)
	}
	blocks.Shift(&s, nil, []int{0, 1})
	if n, _ := store.Used(s); n != 0 {
		t.Errorf("of all: %v", s)
	}
}

func TestRefusedLeavesItAsItWas(t *testing.T) {
	s := small()
	if _, e := blocks.Make(&s, api.Block{Bytes: make([]byte, 4)}); e != api.ErrFull {
		t.Errorf("Make of one more: error %d", e)
	}
	if _, e := blocks.Make(&s, api.Block{Level: 1, Kids: []int{1, 7, 0, 0}}); e != api.ErrWho {
		t.Errorf("Make above nobody: error %d", e)
	}
	if e := blocks.Keep(&s, 3); e != api.ErrWho {
		t.Errorf("Keep of nobody: error %d", e)
	}
	if e := blocks.Drop(&s, 3); e != api.ErrWho {
		t.Errorf("Drop of nobody: error %d", e)
	}
	s.Blocks[0].Refs = 2
	if e := blocks.Drop(&s, 1); e != api.ErrHeld {
		t.Errorf("Drop of what nobody outside holds: error %d", e)
	}
	s.Blocks[0].Refs = 3
	if !store.Same(s, small()) {
		t.Errorf("a refused call changed the store: %v", s)
	}
}

func TestMakeKeepsNothingOfItsBlock(t *testing.T) {
	s := withRoom()
	b := api.Block{Bytes: []byte{5, 6, 7, 8}}
	if _, e := blocks.Make(&s, b); e != api.OK {
		t.Fatalf("Make: error %d", e)
	}
	b.Bytes[0] = 99
	if s.Blocks[2].Bytes[0] != 5 {
		t.Error("Make kept the list that it was given")
	}
}

func TestCopyIsOnesOwn(t *testing.T) {
	s := small()
	own := blocks.Copy(&s)
	if !store.Same(own, small()) {
		t.Fatalf("Copy: %v", own)
	}
	own.Blocks[0].Bytes[0] = 9
	own.Blocks[1].Kids[1] = 9
	own.Blocks[1].Refs = 9
	if !store.Same(s, small()) {
		t.Errorf("what was done to the copy is seen: %v", s)
	}
}
