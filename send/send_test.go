package send_test

import (
	"bytes"
	"fmt"
	"maps"
	"math"
	"math/rand"
	"reflect"
	"slices"
	"strings"
	"testing"

	"rookery/api"
	"rookery/file"
	"rookery/send"
	"rookery/set"
	"rookery/store"
)

const key = 7

// files are the bytes of a set's files, by their names.
type files map[string]string

func noughts(n int) string { return strings.Repeat("\x00", n) }

// padded is b with noughts up to n bytes.
func padded(b string, n int) string { return b + noughts(n-len(b)) }

// cell is the leaf at place i of a file of these bytes.
func cell(b string, i int) string {
	return padded(b, api.MaxSize)[i*api.Leaf : (i+1)*api.Leaf]
}

func gone(name string) api.Change { return api.Change{Kind: api.Gone, Name: name} }

func sized(name string, n int) api.Change { return api.Change{Kind: api.Sized, Name: name, N: n} }

func bytesAt(name string, n int, b string) api.Change {
	return api.Change{Kind: api.Bytes, Name: name, N: n, Bytes: []byte(b)}
}

// told writes changes so that an empty list is as none.
func told(l []api.Change) string {
	var out []string
	for _, c := range l {
		out = append(out, fmt.Sprintf("%d %s %d %q", c.Kind, c.Name, c.N, c.Bytes))
	}
	return strings.Join(out, "; ")
}

func wantZero(t *testing.T, what string, l ...any) {
	t.Helper()
	for _, x := range l {
		if !reflect.ValueOf(x).IsZero() {
			t.Errorf("%s: %v beside an error", what, x)
		}
	}
}

func wantError(t *testing.T, what string, got, want api.Errno, rest ...any) {
	t.Helper()
	if got != want {
		t.Errorf("%s: error %d, want %d", what, got, want)
	}
	if got != api.OK {
		wantZero(t, what, rest...)
	}
}

// do does one ask, and stops the test if it is refused.
func do(t *testing.T, s api.Store, k int, x api.Set, a api.Ask) (api.Store, api.Set) {
	t.Helper()
	s, x, e := set.Do(s, k, x, a)
	if e != api.OK {
		t.Fatalf("%v: error %d", a, e)
	}
	return s, x
}

// lay makes in s a set of that name with these files, of blocks of its own.
func lay(t *testing.T, s api.Store, k int, name string, m files) (api.Store, api.Set) {
	t.Helper()
	x := api.Set{Name: name}
	for _, f := range slices.Sorted(maps.Keys(m)) {
		s, x = do(t, s, k, x, api.Ask{Kind: api.Write, File: f, Bytes: []byte(m[f])})
	}
	return s, x
}

// pair makes a store with a set a of m, and a set b of n, which share nothing.
func pair(t *testing.T, m, n files) (api.Store, api.Set, api.Set) {
	t.Helper()
	s, _ := store.New(api.MaxBlocks)
	s, a := lay(t, s, key, "a", m)
	s, b := lay(t, s, key, "b", n)
	return s, a, b
}

// filesOf reads all files of x, and stops the test if that is refused.
func filesOf(t *testing.T, what string, s api.Store, k int, x api.Set) files {
	t.Helper()
	m := files{}
	for _, entry := range x.Files {
		b, e := file.Read(s, k, entry.F, 0, api.MaxSize)
		if e != api.OK {
			t.Fatalf("%s: %s: error %d", what, entry.Name, e)
		}
		m[entry.Name] = string(b)
	}
	return m
}

// diffBySteps is what P9.1 says, of bytes and not of leaves: as a right file has no leaf of noughts, and each at its own
// place, two leaves are unlike where the bytes are.
func diffBySteps(m, n files) []api.Change {
	var l []api.Change
	for _, name := range slices.Sorted(maps.Keys(m)) {
		if _, there := n[name]; !there {
			l = append(l, gone(name))
		}
	}
	for _, name := range slices.Sorted(maps.Keys(n)) {
		now := n[name]
		old, there := m[name]
		if !there || len(old) != len(now) {
			l = append(l, sized(name, len(now)))
		}
		begin := -1
		for i := range api.MaxSize/api.Leaf + 1 {
			unlike := i*api.Leaf < len(now) && cell(old, i) != cell(now, i)
			if unlike && begin < 0 {
				begin = i * api.Leaf
			}
			if !unlike && begin >= 0 {
				l = append(l, bytesAt(name, begin, now[begin:min(i*api.Leaf, len(now))]))
				begin = -1
			}
		}
	}
	return l
}

// askedBy is what P9.2 says a change is, in asks of chapter 5; none: it is no kind of change.
func askedBy(c api.Change) []api.Ask {
	switch c.Kind {
	case 1:
		return []api.Ask{{Kind: api.Remove, File: c.Name}}
	case 2:
		return []api.Ask{{Kind: api.Write, File: c.Name}, {Kind: api.Cut, File: c.Name, N: c.N}}
	case 3:
		return []api.Ask{{Kind: api.Write, File: c.Name, At: c.N, Bytes: c.Bytes}}
	}
	return nil
}

// applyBySteps does the changes ask by ask, if there is nothing wrong with s, x and how many there are.
func applyBySteps(s api.Store, k int, x api.Set, l []api.Change) (api.Store, api.Set, api.Errno) {
	for _, c := range l {
		asks := askedBy(c)
		if asks == nil {
			return api.Store{}, api.Set{}, api.ErrForm
		}
		for _, a := range asks {
			var e api.Errno
			if s, x, e = set.Do(s, k, x, a); e != api.OK {
				return api.Store{}, api.Set{}, e
			}
		}
	}
	return s, x, api.OK
}

func alike(x, y api.Set) bool {
	same := slices.EqualFunc(x.Snaps, y.Snaps, func(v, w api.Snap) bool {
		return v.Name == w.Name && slices.Equal(v.Files, w.Files)
	})
	return same && x.Name == y.Name && slices.Equal(x.Files, y.Files)
}

// wantApply: Apply answers what the steps do, to the block; it answers that.
func wantApply(t *testing.T, what string, s api.Store, k int, x api.Set, l []api.Change) (api.Store, api.Set, api.Errno) {
	t.Helper()
	got, y, e := send.Apply(s, k, x, l)
	want, z, wantE := applyBySteps(s, k, x, l)
	wantError(t, what, e, wantE, got, y)
	if e == api.OK && (!store.Same(got, want) || !alike(y, z)) {
		t.Errorf("%s: %v, %v, want %v, %v", what, y, got, z, want)
	}
	return got, y, e
}

// wantSent: Diff says what it must of a and b, and a with that applied has b's files; it answers what Diff says.
func wantSent(t *testing.T, what string, s api.Store, a, b api.Set) ([]api.Change, api.Errno) {
	t.Helper()
	n := filesOf(t, what, s, key, b)
	want := diffBySteps(filesOf(t, what, s, key, a), n)
	l, e := send.Diff(s, key, a, b)
	if len(want) > api.MaxChanges {
		wantError(t, what+": Diff", e, api.ErrMany, l)
		return nil, e
	}
	if e != api.OK || told(l) != told(want) {
		t.Fatalf("%s: Diff says %s, error %d, want %s", what, told(l), e, told(want))
	}
	got, c, e := wantApply(t, what, s, key, a, l)
	if e != api.OK {
		return l, e
	}
	if m := filesOf(t, what, got, key, c); !maps.Equal(m, n) {
		t.Errorf("%s: files %q, want %q", what, m, n)
	}
	if m := filesOf(t, what, got, key, b); !maps.Equal(m, n) {
		t.Errorf("%s: those of b are %q now, were %q", what, m, n)
	}
	if c.Name != a.Name || !reflect.DeepEqual(c.Snaps, a.Snaps) {
		t.Errorf("%s: %v, was %v", what, c, a)
	}
	if more, e := send.Diff(got, key, c, b); e != api.OK || len(more) != 0 {
		t.Errorf("%s: then Diff says %s, error %d", what, told(more), e)
	}
	return l, api.OK
}

// The numbers of the kinds, and all fields of each change, by hand.
func TestByHand(t *testing.T) {
	s, a, b := pair(t,
		files{"f": "abcdefghijkl", "g": "x", "h": "", "k": "same"},
		files{"0": "new", "f": "abcdeXghij", "k": "same", "z": noughts(40) + "late"})
	l, e := send.Diff(s, key, a, b)
	want := []api.Change{
		{Kind: 1, Name: "g"},
		{Kind: 1, Name: "h"},
		{Kind: 2, Name: "0", N: 3},
		{Kind: 3, Name: "0", N: 0, Bytes: []byte("new")},
		{Kind: 2, Name: "f", N: 10},
		{Kind: 3, Name: "f", N: 4, Bytes: []byte("eXghij")},
		{Kind: 2, Name: "z", N: 44},
		{Kind: 3, Name: "z", N: 40, Bytes: []byte("late")},
	}
	if e != api.OK || !reflect.DeepEqual(l, want) {
		t.Fatalf("%s, error %d, want %s", told(l), e, told(want))
	}
	_, c, e := send.Apply(s, key, a, l)
	var names []string
	for _, entry := range c.Files {
		names = append(names, fmt.Sprint(entry.Name, " ", entry.F.Size))
	}
	if got := strings.Join(names, ", "); e != api.OK || c.Name != "a" || got != "0 3, f 10, k 4, z 44" {
		t.Errorf("%v, error %d", c, e)
	}
	wantSent(t, "there", s, a, b)
	wantSent(t, "and back", s, b, a)
}

func TestNothingToTell(t *testing.T) {
	many := files{"a": "one", "b": "", "c": noughts(9), "d": strings.Repeat("d", 256), "e": noughts(200) + "x"}
	for what, m := range map[string]files{"no files": {}, "an empty file": {"f": ""}, "many files": many} {
		s, a, b := pair(t, m, m)
		s, a = do(t, s, key, a, api.Ask{Kind: api.Snapshot, To: "s"})
		s, again, _ := set.Clone(s, key, a, "s", "again")
		for _, c := range [][2]api.Set{{a, a}, {a, again}, {again, a}, {a, b}, {b, a}} {
			if l, e := send.Diff(s, key, c[0], c[1]); e != api.OK || len(l) != 0 {
				t.Errorf("%s: %s, error %d", what, told(l), e)
			}
			wantSent(t, what, s, c[0], c[1])
		}
		for _, l := range [][]api.Change{nil, {}} {
			if got, y, e := send.Apply(s, key, a, l); e != api.OK || !store.Same(got, s) || !alike(y, a) {
				t.Errorf("%s: no change: %v, error %d", what, y, e)
			}
		}
	}
	l, e := send.Diff(api.Store{}, key, api.Set{Name: "a"}, api.Set{Name: "b"})
	if e != api.OK || len(l) != 0 {
		t.Errorf("where there are no blocks: %s, error %d", told(l), e)
	}
	if got, y, e := send.Apply(api.Store{}, key, api.Set{Name: "a"}, nil); e != api.OK || len(got.Blocks) != 0 || y.Name != "a" {
		t.Errorf("where there are no blocks: %v, error %d", y, e)
	}
}

// turn is b with other bytes from at on.
func turn(b string, at int, more string) string { return b[:at] + more + b[at+len(more):] }

// Both sets have one file f, or only one of them has it ("-": it isn't there).
func TestOneFile(t *testing.T) {
	full := strings.Repeat("abcdefgh", 32)
	long := "0123456789abcdefghij"
	for _, c := range []struct{ what, old, now, want string }{
		{"only a's", "x", "-", `1 f 0 ""`},
		{"only a's, of nothing", "", "-", `1 f 0 ""`},
		{"only b's, of nothing", "-", "", `2 f 0 ""`},
		{"only b's, of noughts", "-", noughts(9), `2 f 9 ""`},
		{"only b's, of as many noughts as may be", "-", noughts(256), `2 f 256 ""`},
		{"only b's, one byte", "-", "x", `2 f 1 ""; 3 f 0 "x"`},
		{"only b's, just a leaf", "-", "wxyz", `2 f 4 ""; 3 f 0 "wxyz"`},
		{"only b's, a leaf and a byte", "-", "wxyza", `2 f 5 ""; 3 f 0 "wxyza"`},
		{"only b's, all there may be", "-", full, `2 f 256 ""; 3 f 0 "` + full + `"`},
		{"only b's, a leaf of noughts between", "-", "ab" + noughts(6) + "c", `2 f 9 ""; 3 f 0 "ab\x00\x00"; 3 f 8 "c"`},
		{"only b's, noughts behind", "-", "ab" + noughts(9), `2 f 11 ""; 3 f 0 "ab\x00\x00"`},
		{"other bytes: one", "x", "y", `3 f 0 "y"`},
		{"other bytes: a leaf", "wxyz", "abcd", `3 f 0 "abcd"`},
		{"other bytes: a nought for one", "x", noughts(1), `3 f 0 "\x00"`},
		{"other bytes: one for a nought", noughts(1), "x", `3 f 0 "x"`},
		{"other bytes: noughts for all", full, noughts(256), `3 f 0 "` + strings.Repeat(`\x00`, 256) + `"`},
		{"other bytes: all for noughts", noughts(256), full, `3 f 0 "` + full + `"`},
		{"the first leaf", full, turn(full, 0, "x"), `3 f 0 "xbcd"`},
		{"the first leaf's last byte", full, turn(full, 3, "x"), `3 f 0 "abcx"`},
		{"the second leaf", full, turn(full, 4, "x"), `3 f 4 "xfgh"`},
		{"the last leaf", full, turn(full, 255, "x"), `3 f 252 "efgx"`},
		{"the last leaf but one", full, turn(full, 248, "x"), `3 f 248 "xbcd"`},
		{"a block's last leaf and the next one's first", full, turn(full, 63, "xx"), `3 f 60 "efgxxbcd"`},
		{"the first and the last", full, turn(turn(full, 0, "x"), 255, "y"), `3 f 0 "xbcd"; 3 f 252 "efgy"`},
		{"two next to each other", long, turn(long, 7, "xx"), `3 f 4 "456xx9ab"`},
		{"two with one between", long, turn(turn(long, 0, "x"), 8, "y"), `3 f 0 "x123"; 3 f 8 "y9ab"`},
		{"two with two between", long, turn(turn(long, 0, "x"), 12, "y"), `3 f 0 "x123"; 3 f 12 "ydef"`},
		{"a run and one more", long, turn(turn(long, 2, "xxx"), 15, "y"), `3 f 0 "01xxx567"; 3 f 12 "cdey"`},
		{"a run that ends at the size within a leaf", long[:10], turn(long[:10], 5, "xxxx"), `3 f 4 "4xxxx9"`},
		{"a run that ends at the size, one byte in a leaf", long[:9], turn(long[:9], 7, "xx"), `3 f 4 "456xx"`},
		{"a run that ends at the size and a leaf's end", long[:12], turn(long[:12], 7, "xx"), `3 f 4 "456xx9ab"`},
		{"a size alone: one nought more", "abc", "abc\x00", `2 f 4 ""`},
		{"a size alone: noughts up to the end", "abc", padded("abc", 256), `2 f 256 ""`},
		{"a size alone: noughts fewer", padded("abc", 99), "abc", `2 f 3 ""`},
		{"a size alone: of noughts, within a leaf", noughts(3), noughts(1), `2 f 1 ""`},
		{"a size alone: of noughts, to none", noughts(77), "", `2 f 0 ""`},
		{"a size alone: of none, to noughts", "", noughts(77), `2 f 77 ""`},
		{"shorter: leaves at and behind the size alone", long, long[:8], `2 f 8 ""`},
		{"shorter: to nothing", full, "", `2 f 0 ""`},
		{"shorter: by the last leaf", full, full[:252], `2 f 252 ""`},
		{"shorter: by the last byte", full, full[:255], `2 f 255 ""; 3 f 252 "efg"`},
		{"shorter: a leaf is cut", long, long[:9], `2 f 9 ""; 3 f 8 "8"`},
		{"shorter: a leaf is cut to a byte", "abcd", "a", `2 f 1 ""; 3 f 0 "a"`},
		{"shorter: a leaf is cut where noughts were", "ab" + noughts(10) + "c", "ab" + noughts(7), `2 f 9 ""`},
		{"shorter: a leaf is cut to noughts", "ab" + noughts(9) + "c", "ab" + noughts(7), `2 f 9 ""; 3 f 8 "\x00"`},
		{"shorter, and other bytes", long, "x" + long[1:8], `2 f 8 ""; 3 f 0 "x123"`},
		{"shorter, and other bytes up to the size", long, turn(long[:10], 4, "x"), `2 f 10 ""; 3 f 4 "x56789"`},
		{"shorter, and the last leaf ahead of the size", long, turn(long[:8], 7, "x"), `2 f 8 ""; 3 f 4 "456x"`},
		{"longer: within a leaf", long[:9], long[:10], `2 f 10 ""; 3 f 8 "89"`},
		{"longer: by a leaf", long[:8], long[:12], `2 f 12 ""; 3 f 8 "89ab"`},
		{"longer: by a byte behind a leaf", long[:8], long[:9], `2 f 9 ""; 3 f 8 "8"`},
		{"longer: behind noughts", "abcd", padded("abcd", 80) + "e", `2 f 81 ""; 3 f 80 "e"`},
		{"longer, and other bytes", "abcd", "xbcdefgh", `2 f 8 ""; 3 f 0 "xbcdefgh"`},
		{"longer, and other bytes ahead of what is alike", long[:12], turn(long[:12], 1, "x") + "y", `2 f 13 ""; 3 f 0 "0x23"; 3 f 12 "y"`},
		{"longer: all there may be", "", full, `2 f 256 ""; 3 f 0 "` + full + `"`},
	} {
		m, n := files{"e": "e", "g": "g"}, files{"e": "e", "g": "g"}
		if c.old != "-" {
			m["f"] = c.old
		}
		if c.now != "-" {
			n["f"] = c.now
		}
		s, a, b := pair(t, m, n)
		if l, e := wantSent(t, c.what, s, a, b); e != api.OK || told(l) != c.want {
			t.Errorf("%s: %s, error %d, want %s", c.what, told(l), e, c.want)
		}
		_, e := wantSent(t, c.what+", back", s, b, a)
		wantError(t, c.what+", back", e, api.OK)
	}
}

// One byte that is other, in every leaf; and sizes for each other, with leaves that are alike or not.
func TestEveryPlaceAndSize(t *testing.T) {
	full := strings.Repeat("abcdefghijklmnop", 16)
	for leaf := range api.MaxSize / 4 {
		from := leaf * 4
		i := from + leaf%4
		s, a, b := pair(t, files{"f": full}, files{"f": turn(full, i, "X")})
		l, _ := wantSent(t, fmt.Sprint("byte ", i), s, a, b)
		if want := told([]api.Change{bytesAt("f", from, turn(full, i, "X")[from:from+4])}); told(l) != want {
			t.Errorf("byte %d: %s, want %s", i, told(l), want)
		}
	}
	sizes := []int{0, 1, 3, 4, 5, 8, 9, 15, 16, 17, 63, 64, 65, 252, 253, 256}
	for _, old := range sizes {
		for _, now := range sizes {
			for _, other := range []string{"", "XXXXX"} {
				if len(other) <= now {
					s, a, b := pair(t, files{"f": full[:old]}, files{"f": turn(full[:now], max(0, now-9), other)})
					wantSent(t, fmt.Sprint(old, " to ", now), s, a, b)
				}
			}
		}
	}
}

// The order: first of what is gone, by name; then file by file, each with its size ahead of its bytes.
func TestManyFiles(t *testing.T) {
	six := files{"b": "1", "d": "2", "f": "3", "h": "4", "j": "5", "l": "6"}
	for _, c := range []struct {
		what string
		m, n files
		want string
	}{
		{"all are gone", six, files{}, `1 b 0 ""; 1 d 0 ""; 1 f 0 ""; 1 h 0 ""; 1 j 0 ""; 1 l 0 ""`},
		{"all are new", files{}, six, `2 b 1 ""; 3 b 0 "1"; 2 d 1 ""; 3 d 0 "2"; 2 f 1 ""; 3 f 0 "3"; ` +
			`2 h 1 ""; 3 h 0 "4"; 2 j 1 ""; 3 j 0 "5"; 2 l 1 ""; 3 l 0 "6"`},
		{"all are others", six, files{"a": "", "c": "", "e": "", "g": "", "i": "", "k": ""},
			`1 b 0 ""; 1 d 0 ""; 1 f 0 ""; 1 h 0 ""; 1 j 0 ""; 1 l 0 ""; ` +
				`2 a 0 ""; 2 c 0 ""; 2 e 0 ""; 2 g 0 ""; 2 i 0 ""; 2 k 0 ""`},
		{"some of each", six, files{"0": "0", "b": "1", "d": "x", "h": "45678", "j": "5\x00", "z": "7"},
			`1 f 0 ""; 1 l 0 ""; 2 0 1 ""; 3 0 0 "0"; 3 d 0 "x"; 2 h 5 ""; 3 h 0 "45678"; 2 j 2 ""; 2 z 1 ""; 3 z 0 "7"`},
		{"names that begin alike", files{"a": "1", "aa": "2", "ab": "3"}, files{"a": "1", "a0": "2", "aaa": "3"},
			`1 aa 0 ""; 1 ab 0 ""; 2 a0 1 ""; 3 a0 0 "2"; 2 aaa 1 ""; 3 aaa 0 "3"`},
		{"what was one's is another one's", files{"a": "one", "b": "two"}, files{"a": "two", "b": "one"}, `3 a 0 "two"; 3 b 0 "one"`},
		{"another name", files{"a": "one"}, files{"b": "one"}, `1 a 0 ""; 2 b 3 ""; 3 b 0 "one"`},
	} {
		s, a, b := pair(t, c.m, c.n)
		if l, e := wantSent(t, c.what, s, a, b); e != api.OK || told(l) != c.want {
			t.Errorf("%s: %s, error %d, want %s", c.what, told(l), e, c.want)
		}
	}
}

// What a snap of one of them has, or the name of the set, is no change; and the snaps of who applies stay.
func TestSnapsAreNotTold(t *testing.T) {
	s, a, b := pair(t, files{"f": "one", "g": "two"}, files{"f": "one", "g": "two"})
	s, a = do(t, s, key, a, api.Ask{Kind: api.Snapshot, To: "s"})
	s, a = do(t, s, key, a, api.Ask{Kind: api.Write, File: "f", Bytes: []byte("x")})
	s, b = do(t, s, key, b, api.Ask{Kind: api.Write, File: "h", Bytes: []byte("three")})
	s, b = do(t, s, key, b, api.Ask{Kind: api.Snapshot, To: "t"})
	s, b = do(t, s, key, b, api.Ask{Kind: api.Remove, File: "h"})
	l, e := wantSent(t, "snaps", s, a, b)
	if want := `3 f 0 "one"`; e != api.OK || told(l) != want {
		t.Errorf("%s, error %d, want %s", told(l), e, want)
	}
	got, c, _ := send.Apply(s, key, a, []api.Change{gone("f"), gone("g")})
	was := api.Set{Name: "was", Files: c.Snaps[0].Files}
	if m := filesOf(t, "snap", got, key, was); !maps.Equal(m, files{"f": "one", "g": "two"}) || len(c.Files) != 0 {
		t.Errorf("%q, %v", m, c)
	}
}

// spotted is a file of 256 bytes with n leaves of its own, none next to another one.
func spotted(n int) string { return padded(strings.Repeat("spot\x00\x00\x00\x00", n), api.MaxSize) }

func TestMostChanges(t *testing.T) {
	plain := noughts(api.MaxSize)
	for _, c := range []struct {
		what string
		m, n files
		want int
	}{
		{"bytes alone", files{"f": plain, "g": plain}, files{"f": spotted(32), "g": spotted(8)}, 40},
		{"bytes alone, the other way", files{"f": plain, "g": plain}, files{"f": spotted(8), "g": spotted(32)}, 40},
		{"bytes alone, one more", files{"f": plain, "g": plain}, files{"f": spotted(32), "g": spotted(9)}, 41},
		{"bytes and a size", files{"f": plain}, files{"f": spotted(32), "g": spotted(7)}, 40},
		{"bytes and a size, one more", files{"f": plain}, files{"f": spotted(32), "g": spotted(8)}, 41},
		{"bytes, and one that is gone", files{"f": plain, "g": plain, "x": ""}, files{"f": spotted(32), "g": spotted(7)}, 40},
		{"bytes, and one that is gone, one more", files{"f": plain, "g": plain, "x": ""}, files{"f": spotted(32), "g": spotted(8)}, 41},
		{"bytes, and an empty one behind", files{"f": plain, "g": plain}, files{"f": spotted(32), "g": spotted(7), "h": ""}, 40},
		{"bytes, and an empty one behind, one more", files{"f": plain, "g": plain}, files{"f": spotted(32), "g": spotted(8), "h": ""}, 41},
		{"of all kinds", files{"a": "", "b": "", "c": "", "d": "", "e": "", "f": ""},
			files{"u": spotted(23), "v": "1", "w": "2", "x": "3", "y": "4", "z": "5"}, 40},
		{"of all kinds, one more", files{"a": "", "b": "", "c": "", "d": "", "e": "", "f": ""},
			files{"u": spotted(24), "v": "1", "w": "2", "x": "3", "y": "4", "z": "5"}, 41},
		{"many more", files{}, files{"u": spotted(20), "v": spotted(20), "w": spotted(20)}, 63},
	} {
		s, a, b := pair(t, c.m, c.n)
		if n := len(diffBySteps(c.m, c.n)); n != c.want {
			t.Fatalf("%s: %d", c.what, n)
		}
		l, e := wantSent(t, c.what, s, a, b)
		if c.want > api.MaxChanges {
			wantError(t, c.what, e, api.ErrMany, l)
		} else if e != api.OK || len(l) != c.want {
			t.Errorf("%s: %d changes, error %d", c.what, len(l), e)
		}
		if back, e := wantSent(t, c.what+", back", s, b, a); e == api.OK && len(back) > api.MaxChanges {
			t.Errorf("%s, back: %d changes", c.what, len(back))
		}
	}
}

func TestApplyOfMost(t *testing.T) {
	s, a, _ := pair(t, files{"f": "one"}, files{})
	var l []api.Change
	for i := range api.MaxChanges + 1 {
		l = append(l, bytesAt("g", i, "x"))
	}
	got, y, e := wantApply(t, "just as many", s, key, a, l[:api.MaxChanges])
	if e != api.OK || filesOf(t, "just as many", got, key, y)["g"] != strings.Repeat("x", api.MaxChanges) {
		t.Errorf("just as many: %v, error %d", y, e)
	}
	wrong := slices.Repeat([]api.Change{{}}, api.MaxChanges+1)
	for _, l := range [][]api.Change{l, append(l, l...), wrong, append([]api.Change{gone("none")}, l...)} {
		got, y, e := send.Apply(s, key, a, l)
		wantError(t, fmt.Sprint(len(l), " changes"), e, api.ErrMany, got, y)
	}
	got, y, e = send.Apply(s, key, a, wrong[1:])
	wantError(t, "as many that are none", e, api.ErrForm, got, y)
	got, y, e = send.Apply(s, key, a, make([]api.Change, 1000))
	wantError(t, "1000", e, api.ErrMany, got, y)
}

// Each kind of change alone, on the files f ("one two"), g (nothing) and h (9 noughts).
func TestOneChange(t *testing.T) {
	ahead := files{"f": "one two", "g": "", "h": noughts(9)}
	with := func(name, b string) files {
		m := maps.Clone(ahead)
		m[name] = b
		return m
	}
	without := func(name string) files {
		m := maps.Clone(ahead)
		delete(m, name)
		return m
	}
	full := strings.Repeat("x", api.MaxSize)
	for _, c := range []struct {
		c    api.Change
		want files
		e    api.Errno
	}{
		{gone("f"), without("f"), api.OK},
		{gone("g"), without("g"), api.OK},
		{gone("h"), without("h"), api.OK},
		{gone("i"), nil, api.ErrWho},
		{gone(""), nil, api.ErrWho},
		{gone("no name"), nil, api.ErrWho},
		{api.Change{Kind: api.Gone, Name: "f", N: -1, Bytes: []byte(full + "x")}, without("f"), api.OK},
		{sized("f", 7), ahead, api.OK},
		{sized("f", 6), with("f", "one tw"), api.OK},
		{sized("f", 4), with("f", "one "), api.OK},
		{sized("f", 0), with("f", ""), api.OK},
		{sized("f", 8), with("f", "one two\x00"), api.OK},
		{sized("f", 256), with("f", padded("one two", 256)), api.OK},
		{sized("f", 257), nil, api.ErrRange},
		{sized("f", -1), nil, api.ErrRange},
		{sized("f", math.MinInt), nil, api.ErrRange},
		{sized("f", math.MaxInt), nil, api.ErrRange},
		{sized("g", 3), with("g", noughts(3)), api.OK},
		{sized("i", 0), with("i", ""), api.OK},
		{sized("i", 3), with("i", noughts(3)), api.OK},
		{sized("abcdefgh", 256), with("abcdefgh", noughts(256)), api.OK},
		{sized("i", 257), nil, api.ErrRange},
		{sized("", 0), nil, api.ErrText},
		{sized("I", -1), nil, api.ErrText},
		{sized("abcdefghi", 1), nil, api.ErrText},
		{api.Change{Kind: api.Sized, Name: "f", N: 5, Bytes: []byte(full + "x")}, with("f", "one t"), api.OK},
		{bytesAt("f", 0, ""), ahead, api.OK},
		{bytesAt("f", 256, ""), ahead, api.OK},
		{bytesAt("f", 257, ""), nil, api.ErrRange},
		{bytesAt("f", -1, ""), nil, api.ErrRange},
		{bytesAt("f", math.MaxInt, "x"), nil, api.ErrRange},
		{bytesAt("f", 0, "x"), with("f", "xne two"), api.OK},
		{bytesAt("f", 3, "xyz"), with("f", "onexyzo"), api.OK},
		{bytesAt("f", 4, "three"), with("f", "one three"), api.OK},
		{bytesAt("f", 9, "x"), with("f", "one two\x00\x00x"), api.OK},
		{bytesAt("f", 255, "x"), with("f", padded("one two", 255)+"x"), api.OK},
		{bytesAt("f", 0, full), with("f", full), api.OK},
		{bytesAt("f", 0, full+"x"), nil, api.ErrRange},
		{bytesAt("f", 1, full), nil, api.ErrFull},
		{bytesAt("f", 256, "x"), nil, api.ErrFull},
		{bytesAt("g", 2, "x"), with("g", "\x00\x00x"), api.OK},
		{bytesAt("h", 8, "xx"), with("h", noughts(8)+"xx"), api.OK},
		{bytesAt("i", 0, ""), with("i", ""), api.OK},
		{bytesAt("i", 5, ""), with("i", ""), api.OK},
		{bytesAt("i", 5, "new"), with("i", noughts(5)+"new"), api.OK},
		{bytesAt("", 0, "x"), nil, api.ErrText},
		{bytesAt("-", -1, "x"), nil, api.ErrText},
		{api.Change{}, nil, api.ErrForm},
		{api.Change{Kind: 4, Name: "f"}, nil, api.ErrForm},
		{api.Change{Kind: 4, Name: "?", N: -1}, nil, api.ErrForm},
		{api.Change{Kind: -1, Name: "none"}, nil, api.ErrForm},
		{api.Change{Kind: api.Remove, Name: "f"}, nil, api.ErrForm},
		{api.Change{Kind: math.MaxInt, Name: "f"}, nil, api.ErrForm},
		{api.Change{Kind: math.MinInt, Name: "f"}, nil, api.ErrForm},
	} {
		what := told([]api.Change{c.c})
		s, a, _ := pair(t, ahead, files{})
		got, y, e := wantApply(t, what, s, key, a, []api.Change{c.c})
		wantError(t, what, e, c.e, got, y)
		if e == api.OK {
			if m := filesOf(t, what, got, key, y); !maps.Equal(m, c.want) {
				t.Errorf("%s: %q, want %q", what, m, c.want)
			}
			wantHeld(t, what, got, y)
		}
	}
}

// Where there are as many files as may be, a new one is told only behind what is wrong with it, and a Sized makes it
// ahead of being cut.
func TestOneFileTooMany(t *testing.T) {
	s, a, _ := pair(t, files{"a": "", "b": "", "c": "", "d": "", "e": "", "f": "f"}, files{})
	for _, c := range []struct {
		l    []api.Change
		want api.Errno
	}{
		{[]api.Change{sized("g", 0)}, api.ErrMany},
		{[]api.Change{sized("g", 257)}, api.ErrMany},
		{[]api.Change{sized("G", 257)}, api.ErrText},
		{[]api.Change{sized("f", 257)}, api.ErrRange},
		{[]api.Change{bytesAt("g", 0, "x")}, api.ErrMany},
		{[]api.Change{bytesAt("g", 257, "x")}, api.ErrRange},
		{[]api.Change{gone("a"), sized("g", 4), bytesAt("g", 0, "1234")}, api.OK},
		{[]api.Change{sized("g", 4), gone("a")}, api.ErrMany},
	} {
		got, y, e := wantApply(t, told(c.l), s, key, a, c.l)
		wantError(t, told(c.l), e, c.want, got, y)
	}
}

// One behind another: each is done to what the ones ahead of it left.
func TestOneBehindAnother(t *testing.T) {
	for _, c := range []struct {
		what string
		l    []api.Change
		want files
		e    api.Errno
	}{
		{"gone, and there again", []api.Change{gone("f"), sized("f", 2)}, files{"f": noughts(2)}, api.OK},
		{"there, and gone again", []api.Change{sized("g", 2), gone("g")}, files{"f": "one two"}, api.OK},
		{"gone twice", []api.Change{gone("f"), gone("f")}, nil, api.ErrWho},
		{"a size, then bytes", []api.Change{sized("f", 3), bytesAt("f", 2, "xyz")}, files{"f": "onxyz"}, api.OK},
		{"bytes, then a size", []api.Change{bytesAt("f", 2, "xyz"), sized("f", 3)}, files{"f": "onx"}, api.OK},
		{"cut, and longer again", []api.Change{sized("f", 3), sized("f", 7)}, files{"f": "one" + noughts(4)}, api.OK},
		{"bytes over bytes", []api.Change{bytesAt("f", 0, "xxxx"), bytesAt("f", 2, "yyyy")}, files{"f": "xxyyyyo"}, api.OK},
		{"bytes and back", []api.Change{bytesAt("f", 0, "x"), bytesAt("f", 0, "o")}, files{"f": "one two"}, api.OK},
		{"the first that is wrong", []api.Change{sized("f", 3), {Kind: 9}, gone("none"), sized("?", 1)}, nil, api.ErrForm},
		{"another one is first", []api.Change{sized("f", 3), gone("none"), {Kind: 9}, sized("?", 1)}, nil, api.ErrWho},
		{"a third one is first", []api.Change{sized("f", 3), sized("?", 1), gone("none"), {Kind: 9}}, nil, api.ErrText},
		{"the last is wrong", []api.Change{gone("f"), sized("g", 3), bytesAt("g", 256, "x")}, nil, api.ErrFull},
	} {
		s, a, _ := pair(t, files{"f": "one two"}, files{})
		was := whole(s, a)
		got, y, e := wantApply(t, c.what, s, key, a, c.l)
		wantError(t, c.what, e, c.e, got, y)
		if e == api.OK {
			if m := filesOf(t, c.what, got, key, y); !maps.Equal(m, c.want) {
				t.Errorf("%s: %q, want %q", c.what, m, c.want)
			}
			wantHeld(t, c.what, got, y)
		}
		if whole(s, a) != was {
			t.Errorf("%s: what was handed in has changed", c.what)
		}
	}
}

// wantHeld: the sets are right, their roots are held just as often as they stand there, and nothing else is there.
func wantHeld(t *testing.T, what string, s api.Store, l ...api.Set) {
	t.Helper()
	counts, all := make([]int, len(s.Blocks)), []int{}
	for _, x := range l {
		if e := set.Check(s, key, x); e != api.OK {
			t.Fatalf("%s: error %d of %v", what, e, x)
		}
		entries := slices.Clone(x.Files)
		for _, snap := range x.Snaps {
			entries = append(entries, snap.Files...)
		}
		for _, entry := range entries {
			all = append(all, entry.F.Root)
			if entry.F.Root != 0 {
				counts[entry.F.Root-1]++
			}
		}
	}
	outside, e := store.Outside(s)
	if e != api.OK || !slices.Equal(outside, counts) {
		t.Fatalf("%s: held outside %v, error %d, want %v", what, outside, e, counts)
	}
	reached, _ := store.Reach(s, all)
	if n, _ := store.Used(s); n != len(reached) {
		t.Fatalf("%s: %d blocks are there, %d are somebody's", what, n, len(reached))
	}
}

// fault is one thing that is wrong with what Diff and Apply are given, and the error that tells of it.
type fault struct {
	what string
	turn func(s *api.Store, key *int, x *api.Set)
	want api.Errno
}

func inSet(what string, want api.Errno, turn func(x *api.Set)) fault {
	return fault{what, func(_ *api.Store, _ *int, x *api.Set) { turn(x) }, want}
}

func inStore(what string, want api.Errno, turn func(s *api.Store)) fault {
	return fault{what, func(s *api.Store, _ *int, _ *api.Set) { turn(s) }, want}
}

func manyFiles() []api.Entry {
	var l []api.Entry
	for i := range api.MaxFiles + 1 {
		l = append(l, api.Entry{Name: fmt.Sprint("zz", i)})
	}
	return l
}

// commonFaults are what may be wrong with what all sets share, in the order in which chapter 5 tells it.
func commonFaults() []fault {
	return []fault{
		{"a negative key", func(_ *api.Store, key *int, _ *api.Set) { *key = -1 }, api.ErrRange},
		{"a great key", func(_ *api.Store, key *int, _ *api.Set) { *key = api.MaxKey + 1 }, api.ErrRange},
		inStore("too many blocks", api.ErrMany, func(s *api.Store) { s.Blocks = append(s.Blocks, make([]api.Block, api.MaxBlocks)...) }),
		inStore("a free block that isn't zero", api.ErrForm, func(s *api.Store) { s.Blocks[91].Level = 1 }),
		inStore("negative Refs", api.ErrRange, func(s *api.Store) { s.Blocks[92].Refs = -1 }),
		inStore("no such kid", api.ErrWho, func(s *api.Store) { s.Blocks[93] = api.Block{Refs: 1, Level: 1, Kids: []int{99, 0, 0, 0}} }),
		inStore("held too rarely", api.ErrHeld, func(s *api.Store) { s.Blocks[94] = api.Block{Refs: 1, Level: 1, Kids: []int{1, 1, 1, 1}} }),
	}
}

// setFaults are what may be wrong with a set itself, likewise.
func setFaults() []fault {
	return []fault{
		inSet("no name", api.ErrText, func(x *api.Set) { x.Name = "X" }),
		inSet("too many files", api.ErrMany, func(x *api.Set) { x.Files = manyFiles() }),
		inSet("no name of a file", api.ErrText, func(x *api.Set) { x.Files[0].Name = "" }),
		inSet("a great size", api.ErrRange, func(x *api.Set) { x.Files[0].F.Size = api.MaxSize + 1 }),
		inSet("the same name", api.ErrTwice, func(x *api.Set) { x.Files[1].Name = x.Files[0].Name }),
		inSet("no such root", api.ErrWho, func(x *api.Set) { x.Files[1].F.Root = 99 }),
		inSet("a leaf as root", api.ErrForm, func(x *api.Set) { x.Files[2].F.Root = 1 }),
		inSet("a byte behind the size", api.ErrForm, func(x *api.Set) { x.Files[3].F.Size = 1 }),
		inSet("too many snaps", api.ErrMany, func(x *api.Set) { x.Snaps = make([]api.Snap, api.MaxSnaps+1) }),
		inSet("no name of a snap", api.ErrText, func(x *api.Set) { x.Snaps = []api.Snap{{Name: "s", Files: x.Files[:1]}, {Name: "?"}} }),
		inSet("a snap with too many files", api.ErrMany, func(x *api.Set) { x.Snaps = []api.Snap{{Name: "s", Files: manyFiles()}} }),
	}
}

// both is a pair of four files each, a's with a snap, so that each root of a is held twice; between them there are too
// many changes, if that is asked for. The store has 98 blocks.
func both(t *testing.T, many bool) (api.Store, api.Set, api.Set) {
	t.Helper()
	m := files{"a": "one", "b": "two", "c": "", "d": "more than a leaf"}
	n := maps.Clone(m)
	n["a"] = "One"
	s, a, b := pair(t, m, n)
	s, a = do(t, s, key, a, api.Ask{Kind: api.Snapshot, To: "s"})
	if many {
		for i := range api.Leaf {
			a.Files[i].Name, b.Files[i].Name = fmt.Sprint("e", i), fmt.Sprint("f", i)
		}
		s, b = do(t, s, key, b, api.Ask{Kind: api.Write, File: "f2", Bytes: []byte(spotted(30))})
	}
	s.Blocks = s.Blocks[:min(len(s.Blocks), 98)]
	return s, a, b
}

// Each error of Diff alone, and with each later one beside it.
func TestDiffErrorsInTheirOrder(t *testing.T) {
	type place struct {
		fault
		in int
	}
	var l []place
	for _, f := range commonFaults() {
		l = append(l, place{f, 0})
	}
	for in := range 2 {
		for _, f := range setFaults() {
			l = append(l, place{f, in})
		}
	}
	for i, first := range l {
		for j := i; j <= len(l); j++ {
			for _, many := range []bool{false, true} {
				s, a, b := both(t, many)
				k, x := key, [2]*api.Set{&a, &b}
				what := first.what
				// The later one goes first, so that what the first one turns stays so.
				if j < len(l) {
					l[j].turn(&s, &k, x[l[j].in])
					what += "; " + l[j].what
				}
				first.turn(&s, &k, x[first.in])
				got, e := send.Diff(s, k, a, b)
				wantError(t, fmt.Sprint(what, " ", first.in, j), e, first.want, got)
			}
		}
	}
	s, a, b := both(t, true)
	got, e := send.Diff(s, key, a, b)
	wantError(t, "too many changes", e, api.ErrMany, got)
	s, a, b = both(t, false)
	got, e = send.Diff(s, key, a, b)
	if e != api.OK || told(got) != `3 a 0 "One"` {
		t.Errorf("nothing is wrong: %s, error %d", told(got), e)
	}
	got, e = send.Diff(s, key+1, a, b)
	wantError(t, "another key", e, api.ErrForm, got)
}

// Diff doesn't ask who holds what it reads.
func TestDiffOfWhatIsNotHeld(t *testing.T) {
	s, a, b := both(t, false)
	other := api.Set{Name: "c", Files: slices.Concat(a.Files, []api.Entry{{Name: "e", F: b.Files[0].F}})}
	if e := set.Held(s, other); e != api.OK {
		t.Fatalf("error %d", e)
	}
	for range 3 {
		other.Snaps = append(other.Snaps, api.Snap{Name: fmt.Sprint("s", len(other.Snaps)), Files: a.Files})
	}
	if e := set.Held(s, other); e != api.ErrHeld {
		t.Fatalf("error %d", e)
	}
	for _, c := range []struct {
		x, y api.Set
		want string
	}{{a, other, `2 e 3 ""; 3 e 0 "One"`}, {other, a, `1 e 0 ""`}, {other, b, `1 e 0 ""; 3 a 0 "One"`}} {
		if l, e := send.Diff(s, key, c.x, c.y); e != api.OK || told(l) != c.want {
			t.Errorf("%s, error %d, want %s", told(l), e, c.want)
		}
	}
}

// Each error of Apply alone, and with each later one beside it: Check's, Held's, too many, a change's own.
func TestApplyErrorsInTheirOrder(t *testing.T) {
	l := append(commonFaults(), setFaults()...)
	checked := len(l)
	l = append(l, inStore("held once less", api.ErrHeld, func(s *api.Store) { s.Blocks[3].Refs = 1 }))
	tooMany := make([]api.Change, api.MaxChanges+1)
	changes := [][]api.Change{nil, {gone("a")}, {{Kind: 4}}, {gone("none")}, {sized("?", 1)}, {sized("a", 257)}, tooMany}
	for i, first := range l {
		for j := i; j < len(l); j++ {
			for _, c := range changes {
				s, a, _ := both(t, false)
				k := key
				l[j].turn(&s, &k, &a)
				first.turn(&s, &k, &a)
				what := first.what + "; " + l[j].what
				if got := set.Check(s, k, a); i < checked && got != first.want || i == checked && got != api.OK {
					t.Fatalf("%s: Check says %d", what, got)
				}
				got, y, e := send.Apply(s, k, a, c)
				wantError(t, what, e, first.want, got, y)
			}
		}
	}
	for i, want := range []api.Errno{api.OK, api.OK, api.ErrForm, api.ErrWho, api.ErrText, api.ErrRange, api.ErrMany} {
		s, a, _ := both(t, false)
		got, y, e := send.Apply(s, key, a, changes[i])
		wantError(t, told(changes[i]), e, want, got, y)
	}
}

// Of the blocks that a change needs, some are free, but not all: the error alone; with just as many it is done.
func TestLastFreeBlocks(t *testing.T) {
	for _, c := range []struct {
		what  string
		l     []api.Change
		needs int
	}{
		{"a byte", []api.Change{bytesAt("f", 0, "x")}, 4},
		{"two leaves", []api.Change{bytesAt("f", 3, "xx")}, 8},
		{"a size that is longer", []api.Change{sized("f", 9)}, 0},
		{"a size within a leaf", []api.Change{sized("f", 2)}, 4},
		{"a new file", []api.Change{sized("g", 4), bytesAt("g", 0, "1234")}, 4},
		{"what is gone makes room", []api.Change{gone("f"), sized("g", 4), bytesAt("g", 0, "1234")}, 0},
		{"but not for what is ahead", []api.Change{sized("g", 4), bytesAt("g", 0, "1234"), gone("f")}, 4},
		{"one byte, and another one", []api.Change{bytesAt("f", 0, "x"), bytesAt("f", 0, "y")}, 4},
		{"no bytes", []api.Change{bytesAt("f", 0, ""), bytesAt("g", 0, "")}, 0},
	} {
		for n := range c.needs + 3 {
			s, a, _ := pair(t, files{"f": "one!"}, files{})
			s.Blocks = s.Blocks[:4+n]
			want := api.OK
			if n < c.needs {
				want = api.ErrFull
			}
			what := fmt.Sprint(c.what, ", free: ", n)
			got, y, e := wantApply(t, what, s, key, a, c.l)
			wantError(t, what, e, want, got, y)
			if e == api.OK {
				wantHeld(t, what, got, y)
			}
		}
	}
}

// What is held most can't be held once more by a Write beside it, which is chapter 5's error; what needs no block of its
// own is done all the same.
func TestBlockThatIsHeldMost(t *testing.T) {
	s, a, _ := pair(t, files{"f": "one!" + noughts(12) + "two!"}, files{})
	first := func(address int) int { return s.Blocks[address-1].Kids[0] }
	root := a.Files[0].F.Root
	high := first(root)
	low := first(high)
	leaf := first(low)
	for _, c := range []struct {
		what    string
		address int
		l       []api.Change
		want    api.Errno
	}{
		{"the leaf, one beside it", leaf, []api.Change{bytesAt("f", 4, "x")}, api.ErrRange},
		{"the leaf itself", leaf, []api.Change{bytesAt("f", 0, "x")}, api.OK},
		{"the leaf, one elsewhere", leaf, []api.Change{bytesAt("f", 20, "x")}, api.OK},
		{"the block above it, one below it", low, []api.Change{bytesAt("f", 4, "x")}, api.OK},
		{"the block above it, one beside it", low, []api.Change{bytesAt("f", 20, "x")}, api.ErrRange},
		{"the one above that, one below it", high, []api.Change{bytesAt("f", 20, "x")}, api.OK},
		{"the one above that, one beside it", high, []api.Change{bytesAt("f", 64, "x")}, api.ErrRange},
		{"the root", root, []api.Change{bytesAt("f", 0, "x")}, api.ErrRange},
		{"the root, no bytes", root, []api.Change{bytesAt("f", 99, "")}, api.OK},
		{"the root, a size", root, []api.Change{sized("f", 99)}, api.OK},
		{"the root, a cut", root, []api.Change{sized("f", 18)}, api.ErrRange},
		{"the root, gone", root, []api.Change{gone("f"), sized("f", 3), bytesAt("f", 0, "abc")}, api.OK},
		{"the root, a new one ahead", root, []api.Change{sized("g", 3), bytesAt("f", 0, "x"), {}}, api.ErrRange},
		{"the root, no change ahead", root, []api.Change{{}, bytesAt("f", 0, "x")}, api.ErrForm},
	} {
		s := s
		s.Blocks = slices.Clone(s.Blocks)
		s.Blocks[c.address-1].Refs = api.MaxRefs
		got, y, e := wantApply(t, c.what, s, key, a, c.l)
		wantError(t, c.what, e, c.want, got, y)
		if e == api.OK {
			wantError(t, c.what, store.Check(got), api.OK)
		}
	}
}

// Who has the same files as a, with another key, in another store, with snaps of its own, comes to have b's.
func TestToAnotherStore(t *testing.T) {
	m := files{"a": "one", "b": strings.Repeat("two", 20), "c": "", "d": noughts(30)}
	n := files{"a": "one more", "b": strings.Repeat("two", 10) + "x", "d": noughts(15) + "y" + noughts(14), "e": "new"}
	s, a, b := pair(t, m, n)
	l, e := send.Diff(s, key, a, b)
	if e != api.OK {
		t.Fatalf("error %d", e)
	}
	for _, k := range []int{0, key, key + 1, api.MaxKey} {
		s, _ := store.New(120)
		s, x := lay(t, s, k, "far", m)
		s, x = do(t, s, k, x, api.Ask{Kind: api.Snapshot, To: "was"})
		s, y, e := wantApply(t, "far", s, k, x, l)
		if e != api.OK || !maps.Equal(filesOf(t, "far", s, k, y), n) || y.Name != "far" {
			t.Errorf("key %d: %v, error %d", k, y, e)
		}
		was := api.Set{Name: "was", Files: y.Snaps[0].Files}
		if !maps.Equal(filesOf(t, "was", s, k, was), m) {
			t.Errorf("key %d: the snap has changed", k)
		}
	}
}

func someAsk(r *rand.Rand) api.Ask {
	pick := func(l ...string) string { return l[r.Intn(len(l))] }
	a := api.Ask{
		Kind: []int{api.Write, api.Write, api.Write, api.Write, api.Cut, api.Cut, api.Remove, api.Rename, api.Back}[r.Intn(9)],
		File: pick("a", "b", "c", "d", "e", "f", "g"), To: pick("a", "c", "f", "s"),
		At: r.Intn(50), N: r.Intn(50), Bytes: make([]byte, r.Intn(30)),
	}
	if r.Intn(10) == 0 {
		a.At, a.N = r.Intn(api.MaxSize), r.Intn(api.MaxSize+1)
	}
	for i := range a.Bytes {
		a.Bytes[i] = []byte{0, 0, 0, 'x', 'y'}[r.Intn(5)]
	}
	return a
}

// somePair makes two sets by many asks; most often the second one begins as a clone of a snap of the first one.
func somePair(t *testing.T, r *rand.Rand, blocks int) (api.Store, [2]api.Set) {
	t.Helper()
	s, _ := store.New(blocks)
	x := [2]api.Set{{Name: "a"}, {Name: "b"}}
	asked := func(i, many int) {
		for range many {
			if next, y, e := set.Do(s, key, x[i], someAsk(r)); e == api.OK {
				s, x[i] = next, y
			}
		}
	}
	asked(0, r.Intn(15))
	if r.Intn(4) > 0 {
		s, x[0] = do(t, s, key, x[0], api.Ask{Kind: api.Snapshot, To: "s"})
		s, x[1], _ = set.Clone(s, key, x[0], "s", "b")
		s, x[1] = do(t, s, key, x[1], api.Ask{Kind: api.Snapshot, To: "s"})
	}
	asked(0, r.Intn(10))
	asked(1, r.Intn(15))
	return s, x
}

// Many pairs of sets that share much, little or nothing.
func TestManyPairs(t *testing.T) {
	kinds, ends := map[int]int{}, map[api.Errno]int{}
	for seed := range int64(400) {
		r := rand.New(rand.NewSource(seed))
		s, x := somePair(t, r, 60+r.Intn(200))
		for _, c := range [][2]api.Set{{x[0], x[1]}, {x[1], x[0]}, {{Name: "none"}, x[1]}, {x[0], {Name: "none"}}} {
			what := fmt.Sprint("seed ", seed, ", ", c[0].Name, " to ", c[1].Name)
			l, e := wantSent(t, what, s, c[0], c[1])
			ends[e]++
			if e != api.OK && e != api.ErrMany && e != api.ErrFull {
				t.Errorf("%s: error %d", what, e)
			}
			for _, c := range l {
				kinds[c.Kind]++
			}
			if c[0].Name == "none" {
				continue
			}
			if got, y, e := send.Apply(s, key, c[0], l); e == api.OK {
				other := x[0]
				if c[0].Name == "a" {
					other = x[1]
				}
				wantHeld(t, what, got, y, other)
			}
		}
	}
	if kinds[api.Gone] < 400 || kinds[api.Sized] < 400 || kinds[api.Bytes] < 400 {
		t.Errorf("kinds: %v", kinds)
	}
	if ends[api.OK] < 1000 || ends[api.ErrFull] < 20 {
		t.Errorf("ends: %v", ends)
	}
}

func someChange(r *rand.Rand) api.Change {
	pick := func(l ...string) string { return l[r.Intn(len(l))] }
	c := api.Change{
		Kind: []int{1, 2, 2, 3, 3, 3, 3}[r.Intn(7)],
		Name: pick("a", "b", "c", "d", "e", "f"),
		N:    r.Intn(50), Bytes: make([]byte, r.Intn(20)),
	}
	for i := range c.Bytes {
		c.Bytes[i] = []byte{0, 0, 'x', 'y'}[r.Intn(4)]
	}
	if r.Intn(20) == 0 {
		c.N = r.Intn(300) - 20
	}
	if r.Intn(40) == 0 {
		c.Name = pick("", "A", "toolong89")
	}
	if r.Intn(40) == 0 {
		c.Kind = r.Intn(9) - 3
	}
	return c
}

// modelled does a change to bytes by names, if nothing is wrong with it.
func modelled(m files, c api.Change) api.Errno {
	old, there := m[c.Name]
	switch {
	case c.Kind < 1 || c.Kind > 3:
		return api.ErrForm
	case c.Kind == 1 && !there:
		return api.ErrWho
	case c.Kind == 1:
		delete(m, c.Name)
		return api.OK
	case !set.Name(c.Name):
		return api.ErrText
	case c.Kind == 3 && (c.N < 0 || c.N > 256):
		return api.ErrRange
	case c.Kind == 3 && c.N+len(c.Bytes) > 256:
		return api.ErrFull
	case !there && len(m) == api.MaxFiles:
		return api.ErrMany
	case c.Kind == 2 && (c.N < 0 || c.N > 256):
		return api.ErrRange
	case c.Kind == 2:
		m[c.Name] = padded(old, 256)[:c.N]
	case len(c.Bytes) == 0:
		m[c.Name] = old
	default:
		b := []byte(padded(old, max(len(old), c.N+len(c.Bytes))))
		copy(b[c.N:], c.Bytes)
		m[c.Name] = string(b)
	}
	return api.OK
}

// Any changes, not only what a Diff says: the files are what comes of bytes by names, or the first error is the answer.
func TestAnyChanges(t *testing.T) {
	ends := map[api.Errno]int{}
	for seed := range int64(500) {
		r := rand.New(rand.NewSource(seed))
		s, x := somePair(t, r, api.MaxBlocks)
		m := filesOf(t, "ahead", s, key, x[0])
		l := make([]api.Change, r.Intn(12))
		want := api.OK
		for i := range l {
			l[i] = someChange(r)
			if want == api.OK {
				want = modelled(m, l[i])
			}
		}
		what := fmt.Sprint("seed ", seed)
		got, y, e := wantApply(t, what, s, key, x[0], l)
		wantError(t, what, e, want, got, y)
		ends[e]++
		if e == api.OK {
			if now := filesOf(t, what, got, key, y); !maps.Equal(now, m) {
				t.Fatalf("%s: %q, want %q", what, now, m)
			}
			if !reflect.DeepEqual(y.Snaps, x[0].Snaps) {
				t.Errorf("%s: snaps %v, were %v", what, y.Snaps, x[0].Snaps)
			}
			wantHeld(t, what, got, y, x[1])
		}
	}
	for _, e := range []api.Errno{api.OK, api.ErrForm, api.ErrWho, api.ErrText, api.ErrRange, api.ErrMany} {
		if ends[e] < 10 {
			t.Errorf("ends: %v", ends)
		}
	}
}

// lists are the lists of a store, of sets and of changes, whole: with their spare room.
func lists(s api.Store, l []api.Change, many ...api.Set) []reflect.Value {
	out := []reflect.Value{reflect.ValueOf(s.Blocks), reflect.ValueOf(l)}
	for _, b := range s.Blocks {
		out = append(out, reflect.ValueOf(b.Kids), reflect.ValueOf(b.Bytes))
	}
	for _, c := range l {
		out = append(out, reflect.ValueOf(c.Bytes))
	}
	for _, x := range many {
		out = append(out, reflect.ValueOf(x.Files), reflect.ValueOf(x.Snaps))
		for _, snap := range x.Snaps {
			out = append(out, reflect.ValueOf(snap.Files))
		}
	}
	return out
}

func overlap(x, y reflect.Value) bool {
	size := func(v reflect.Value) uintptr { return uintptr(v.Cap()) * v.Type().Elem().Size() }
	return size(x) > 0 && size(y) > 0 && x.Pointer() < y.Pointer()+size(y) && y.Pointer() < x.Pointer()+size(x)
}

func wantApart(t *testing.T, what string, in, out []reflect.Value) {
	t.Helper()
	for i, x := range out {
		for _, y := range slices.Concat(in, out[i+1:]) {
			if overlap(x, y) {
				t.Fatalf("%s: lists share memory", what)
			}
		}
	}
}

// roomy is l with spare room, which is full of x.
func roomy[T any](l []T, x T) []T {
	out := append(make([]T, 0, len(l)+5), l...)
	for i := len(l); i < cap(out); i++ {
		out[:cap(out)][i] = x
	}
	return out
}

func roomyStore(s api.Store) api.Store {
	s.Blocks = roomy(s.Blocks, api.Block{Refs: 3, Bytes: []byte("abcd")})
	for i := range s.Blocks {
		s.Blocks[i].Kids = roomy(s.Blocks[i].Kids, 77)
		s.Blocks[i].Bytes = roomy(s.Blocks[i].Bytes, 'r')
	}
	return s
}

func roomySet(x api.Set) api.Set {
	spare := api.Entry{Name: "spare", F: api.File{Root: 5, Size: 2}}
	x.Files = roomy(x.Files, spare)
	x.Snaps = roomy(x.Snaps, api.Snap{Name: "spare"})
	for i := range x.Snaps {
		x.Snaps[i].Files = roomy(x.Snaps[i].Files, spare)
	}
	return x
}

func roomyChanges(l []api.Change) []api.Change {
	l = roomy(l, bytesAt("spare", 3, "spare"))
	for i := range l {
		l[i].Bytes = roomy(l[i].Bytes, 'r')
	}
	return l
}

// whole tells all of a store and of sets, with the spare room of their lists.
func whole(s api.Store, many ...api.Set) string {
	var b strings.Builder
	fmt.Fprint(&b, len(s.Blocks), s.Blocks[:cap(s.Blocks)])
	for _, x := range s.Blocks {
		fmt.Fprint(&b, x.Kids[:cap(x.Kids)], x.Bytes[:cap(x.Bytes)])
	}
	for _, x := range many {
		fmt.Fprint(&b, x.Name, len(x.Files), x.Files[:cap(x.Files)], len(x.Snaps), x.Snaps[:cap(x.Snaps)])
		for _, snap := range x.Snaps {
			fmt.Fprint(&b, len(snap.Files), snap.Files[:cap(snap.Files)])
		}
	}
	return b.String()
}

func wholeChanges(l []api.Change) string {
	told := fmt.Sprint(len(l), l[:cap(l)])
	for _, c := range l {
		told += fmt.Sprint(c.Bytes[:cap(c.Bytes)])
	}
	return told
}

func TestWhatIsHandedInIsOnlyRead(t *testing.T) {
	answered := 0
	for seed := range int64(60) {
		r := rand.New(rand.NewSource(seed))
		s, x := somePair(t, r, 150)
		s, x[0], x[1] = roomyStore(s), roomySet(x[0]), roomySet(x[1])
		was := whole(s, x[:]...)
		in := lists(s, nil, x[:]...)
		l, e := send.Diff(s, key, x[0], x[1])
		wantApart(t, "Diff", in, lists(api.Store{}, l))
		again, _ := send.Diff(s, key, x[0], x[1])
		if told(again) != told(l) || whole(s, x[:]...) != was {
			t.Fatalf("seed %d: Diff changes what it is given, or says something else", seed)
		}
		if e != api.OK {
			continue
		}
		for _, l := range [][]api.Change{nil, l, {someChange(r)}, {someChange(r), someChange(r), {}}} {
			l = roomyChanges(l)
			ahead := was + wholeChanges(l)
			got, y, e := send.Apply(s, key, x[0], l)
			if e == api.OK {
				answered++
				wantApart(t, "Apply", append(in, lists(api.Store{}, l)...), lists(got, nil, y))
			}
			other, z, f := send.Apply(s, key, x[0], l)
			if e != f || !store.Same(got, other) || !alike(y, z) || whole(s, x[:]...)+wholeChanges(l) != ahead {
				t.Fatalf("seed %d: Apply changes what it is given, or answers something else", seed)
			}
		}
	}
	if answered < 100 {
		t.Errorf("only %d times", answered)
	}
}

// What Diff answers stays as it is, and what Apply answers too, when what was handed in changes later.
func TestNothingIsKept(t *testing.T) {
	s, a, b := pair(t, files{"f": "one"}, files{"f": "two", "g": "three"})
	l, _ := send.Diff(s, key, a, b)
	ahead := told(l)
	got, y, e := send.Apply(s, key, a, l)
	was := whole(got, y)
	for i := range s.Blocks {
		for j := range s.Blocks[i].Bytes {
			s.Blocks[i].Bytes[j]++
		}
		s.Blocks[i].Refs += 5
	}
	a.Files[0].Name, b.Files[0].Name = "x", "y"
	if told(l) != ahead {
		t.Errorf("Diff: %s, was %s", told(l), ahead)
	}
	for i := range l {
		for j := range l[i].Bytes {
			l[i].Bytes[j]++
		}
	}
	if e != api.OK || whole(got, y) != was {
		t.Errorf("Apply: %v, error %d", y, e)
	}
}

// twist spoils one thing, somewhere.
func twist(r *rand.Rand, s *api.Store, x *api.Set, l []api.Change) {
	n := []int{-1, 0, 1, 2, 3, 5, 99, 256, 257, math.MaxInt, math.MinInt}[r.Intn(11)]
	name := []string{"", "a", "f", "?", "abcdefghi"}[r.Intn(5)]
	b := &s.Blocks[r.Intn(len(s.Blocks))]
	switch r.Intn(12) {
	case 0:
		b.Refs = n
	case 1:
		b.Level = n
	case 2:
		b.Kids = append(b.Kids, n)
	case 3:
		b.Bytes = append(b.Bytes, byte(n))
	case 4:
		b.Kids = []int{n, n, 0, n}
	case 5:
		b.Bytes = []byte{byte(n), 0, 0, 0}
	case 6:
		x.Name = name
	case 7:
		x.Files = append(x.Files, api.Entry{Name: name, F: api.File{Root: n, Size: n}})
	case 8:
		x.Snaps = append(x.Snaps, api.Snap{Name: name, Files: x.Files})
	case 9:
		for i := range x.Files {
			x.Files[i].F.Root = n
		}
	case 10:
		for i := range x.Files {
			x.Files[i].F.Size = n
		}
	default:
		for i := range l {
			l[i].N = n
		}
	}
}

// Whatever is given: no call panics, and an error stands alone. What is wrong is what chapter 5 says, ahead of all else.
func TestTwisted(t *testing.T) {
	ends := map[api.Errno]int{}
	for seed := range int64(3000) {
		r := rand.New(rand.NewSource(seed))
		s, x := somePair(t, r, 40)
		l := []api.Change{someChange(r), someChange(r)}
		for range 1 + r.Intn(2) {
			twist(r, &s, &x[r.Intn(2)], l)
		}
		what := fmt.Sprint("seed ", seed)
		of := [2]api.Errno{set.Check(s, key, x[0]), set.Check(s, key, x[1])}
		got, e := send.Diff(s, key, x[0], x[1])
		ends[e]++
		if want := firstOf(of[0], of[1]); want != api.OK {
			wantError(t, what, e, want, got)
		} else {
			wantSent(t, what, s, x[0], x[1])
		}
		next, y, e := send.Apply(s, key, x[0], l)
		if want := firstOf(of[0], set.Held(s, x[0])); want != api.OK {
			wantError(t, what, e, want, next, y)
		} else {
			wantApply(t, what, s, key, x[0], l)
		}
	}
	for _, e := range []api.Errno{api.OK, api.ErrText, api.ErrRange, api.ErrForm, api.ErrWho, api.ErrTwice} {
		if ends[e] < 20 {
			t.Errorf("ends: %v", ends)
		}
	}
}

func firstOf(l ...api.Errno) api.Errno {
	for _, e := range l {
		if e != api.OK {
			return e
		}
	}
	return api.OK
}

// Nothing at all is handed in.
func TestZeroValues(t *testing.T) {
	l, e := send.Diff(api.Store{}, 0, api.Set{}, api.Set{})
	wantError(t, "Diff", e, api.ErrText, l)
	l, e = send.Diff(api.Store{}, 0, api.Set{Name: "a"}, api.Set{})
	wantError(t, "Diff of b", e, api.ErrText, l)
	s, x, e := send.Apply(api.Store{}, 0, api.Set{}, nil)
	wantError(t, "Apply", e, api.ErrText, s, x)
	s, x, e = send.Apply(api.Store{}, 0, api.Set{Name: "a"}, []api.Change{sized("f", 9), bytesAt("f", 2, noughts(3))})
	if e != api.OK || len(s.Blocks) != 0 || !slices.Equal(x.Files, []api.Entry{{Name: "f", F: api.File{Size: 9}}}) {
		t.Errorf("noughts alone: %v, error %d", x, e)
	}
	s, x, e = send.Apply(api.Store{}, 0, api.Set{Name: "a"}, []api.Change{bytesAt("f", 2, string(bytes.Repeat([]byte{1}, 3)))})
	wantError(t, "no room", e, api.ErrFull, s, x)
}
