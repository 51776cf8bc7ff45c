// Package sets has what several layers need of the plain data of a set (doc/05-set.md), right or not.
package sets

import (
	"slices"

	"rookery/api"
)

// Roots answers the roots of all files of x and of its snaps, each as often as it stands there.
func Roots(x api.Set) []int {
	l := rootsOf(x.Files)
	for _, snap := range x.Snaps {
		l = append(l, rootsOf(snap.Files)...)
	}
	return l
}

func rootsOf(files []api.Entry) []int {
	l := make([]int, len(files))
	for i, entry := range files {
		l[i] = entry.F.Root
	}
	return l
}

// Copy answers a set that is the caller's own: no list of it shares memory with x, or with another one.
func Copy(x api.Set) api.Set {
	x.Files = slices.Clone(x.Files)
	x.Snaps = slices.Clone(x.Snaps)
	for i := range x.Snaps {
		x.Snaps[i].Files = slices.Clone(x.Snaps[i].Files)
	}
	return x
}
