// Package blocks does what chapter 2 says (doc/02-store.md) to a store that is the caller's own: in place, by a
// pointer to it, so that a layer which does many steps copies the store once and not at every step. What a call
// refuses it leaves as it was.
package blocks

import (
	"maps"
	"slices"

	"rookery/api"
)

// Check answers what is wrong with s.
func Check(s *api.Store) api.Errno {
	if len(s.Blocks) > api.MaxBlocks {
		return api.ErrMany
	}
	for i := range s.Blocks {
		if e := checkBlock(s, &s.Blocks[i]); e != api.OK {
			return e
		}
	}
	for i, n := range amongKids(s) {
		if n > s.Blocks[i].Refs {
			return api.ErrHeld
		}
	}
	return api.OK
}

// checkBlock answers what is wrong with b by itself, if it stands in s, or is to stand there.
func checkBlock(s *api.Store, b *api.Block) api.Errno {
	if b.Refs == 0 {
		if b.Level != 0 || len(b.Kids) != 0 || len(b.Bytes) != 0 {
			return api.ErrForm
		}
		return api.OK
	}
	if b.Refs < 0 || b.Refs > api.MaxRefs || b.Level < 0 || b.Level > api.Top {
		return api.ErrRange
	}
	if b.Level == 0 {
		return checkLeaf(b)
	}
	return checkKids(s, b)
}

func checkLeaf(b *api.Block) api.Errno {
	if len(b.Kids) != 0 || len(b.Bytes) != api.Leaf {
		return api.ErrForm
	}
	return api.OK
}

func checkKids(s *api.Store, b *api.Block) api.Errno {
	if len(b.Kids) != api.Fan || len(b.Bytes) != 0 {
		return api.ErrForm
	}
	some := false
	for _, kid := range b.Kids {
		if kid == 0 {
			continue
		}
		if !There(s, kid) || At(s, kid).Level != b.Level-1 {
			return api.ErrWho
		}
		some = true
	}
	if !some {
		return api.ErrForm
	}
	return api.OK
}

// There says whether a block that is not free has the address a.
func There(s *api.Store, a int) bool {
	return a >= 1 && a <= len(s.Blocks) && At(s, a).Refs != 0
}

// At answers the block whose address is a, itself and not a copy; a is one that s has, or At panics.
func At(s *api.Store, a int) *api.Block { return &s.Blocks[a-1] }

// amongKids counts, block by block of a store whose blocks are right by themselves, how often it stands among Kids.
func amongKids(s *api.Store) []int {
	counts := make([]int, len(s.Blocks))
	for i := range s.Blocks {
		for _, kid := range s.Blocks[i].Kids {
			if kid != 0 {
				counts[kid-1]++
			}
		}
	}
	return counts
}

// Outside answers, block by block, how often it is held by others than blocks.
func Outside(s *api.Store) ([]int, api.Errno) {
	if e := Check(s); e != api.OK {
		return nil, e
	}
	out := amongKids(s)
	for i, n := range out {
		out[i] = s.Blocks[i].Refs - n
	}
	return out, api.OK
}

// Reach answers the addresses, rising, of the roots that aren't 0 and of all that is below them.
func Reach(s *api.Store, roots []int) ([]int, api.Errno) {
	if e := Check(s); e != api.OK {
		return nil, e
	}
	for _, root := range roots {
		if root != 0 && !There(s, root) {
			return nil, api.ErrWho
		}
	}
	seen := map[int]int{}
	var walk func(below []int)
	walk = func(below []int) {
		for _, a := range below {
			if a == 0 || seen[a] > 0 {
				continue
			}
			seen[a]++
			walk(At(s, a).Kids)
		}
	}
	walk(roots)
	return slices.Sorted(maps.Keys(seen)), api.OK
}

// Copy answers a store that is the caller's own: no list of it shares memory with s, or with another one.
func Copy(s *api.Store) api.Store {
	own := make([]api.Block, len(s.Blocks))
	for i, b := range s.Blocks {
		own[i] = copyBlock(b)
	}
	return api.Store{Blocks: own}
}

func copyBlock(b api.Block) api.Block {
	b.Kids = slices.Clone(b.Kids)
	b.Bytes = slices.Clone(b.Bytes)
	return b
}

// Make lays b, held once, at the lowest free address, and answers that.
func Make(s *api.Store, b api.Block) (int, api.Errno) {
	if e := Check(s); e != api.OK {
		return 0, e
	}
	b.Refs = 1
	if e := checkBlock(s, &b); e != api.OK {
		return 0, e
	}
	free := slices.IndexFunc(s.Blocks, func(old api.Block) bool { return old.Refs == 0 })
	if free < 0 {
		return 0, api.ErrFull
	}
	s.Blocks[free] = copyBlock(b)
	for _, kid := range b.Kids {
		if kid != 0 {
			At(s, kid).Refs++
		}
	}
	return free + 1, api.OK
}

// Keep holds the block at a once more.
func Keep(s *api.Store, a int) api.Errno {
	if e := checkThere(s, a); e != api.OK {
		return e
	}
	At(s, a).Refs++
	return api.OK
}

// Drop holds the block at a once less, and frees what nobody holds then.
func Drop(s *api.Store, a int) api.Errno {
	if e := checkThere(s, a); e != api.OK {
		return e
	}
	if At(s, a).Refs == amongKids(s)[a-1] {
		return api.ErrHeld
	}
	letGo(s, []int{a})
	return api.OK
}

// Shift holds each of more once more, even above api.MaxRefs, and then each of less once less, and frees what nobody
// holds then; 0 is nothing. Nothing is checked: the caller knows that s is right, that all of more are there, and that
// each of less is held outside that often, so that what is above api.MaxRefs on the way is no error.
func Shift(s *api.Store, more, less []int) {
	for _, a := range more {
		if a != 0 {
			At(s, a).Refs++
		}
	}
	letGo(s, less)
}

func letGo(s *api.Store, l []int) {
	var less func(l []int)
	less = func(l []int) {
		for _, a := range l {
			if a == 0 {
				continue
			}
			b := At(s, a)
			b.Refs--
			if b.Refs > 0 {
				continue
			}
			kids := b.Kids
			*b = api.Block{}
			less(kids)
		}
	}
	less(l)
}

func checkThere(s *api.Store, a int) api.Errno {
	if e := Check(s); e != api.OK {
		return e
	}
	if !There(s, a) {
		return api.ErrWho
	}
	return api.OK
}
