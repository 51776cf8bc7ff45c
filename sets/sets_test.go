package sets_test

import (
	"slices"
	"testing"

	"rookery/api"
	"rookery/sets"
)

func of(l ...int) []api.Entry {
	var out []api.Entry
	for _, root := range l {
		out = append(out, api.Entry{Name: "f", F: api.File{Root: root}})
	}
	return out
}

func TestRoots(t *testing.T) {
	x := api.Set{Files: of(3, 0, 3), Snaps: []api.Snap{{Files: of(5)}, {}, {Files: of(-1, 3)}}}
	if l := sets.Roots(x); !slices.Equal(l, []int{3, 0, 3, 5, -1, 3}) {
		t.Errorf("%v", l)
	}
	if l := sets.Roots(api.Set{}); len(l) != 0 {
		t.Errorf("of nothing: %v", l)
	}
}

func TestCopy(t *testing.T) {
	x := api.Set{Name: "x", Files: of(1), Snaps: []api.Snap{{Name: "s", Files: of(2)}}}
	y := sets.Copy(x)
	if y.Name != "x" || y.Files[0].F.Root != 1 || y.Snaps[0].Name != "s" || y.Snaps[0].Files[0].F.Root != 2 {
		t.Errorf("%v", y)
	}
	y.Files[0].Name, y.Snaps[0].Files[0].Name = "g", "g"
	y.Snaps[0].Name = "t"
	if x.Files[0].Name != "f" || x.Snaps[0].Files[0].Name != "f" || x.Snaps[0].Name != "s" {
		t.Errorf("what was handed in has changed: %v", x)
	}
	if y := sets.Copy(api.Set{}); y.Name != "" || len(y.Files)+len(y.Snaps) != 0 {
		t.Errorf("of nothing: %v", y)
	}
}
