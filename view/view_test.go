package view_test

import (
	"bytes"
	"fmt"
	"maps"
	"math"
	"math/rand"
	"reflect"
	"slices"
	"strings"
	"testing"

	"rookery/api"
	"rookery/pool"
	"rookery/store"
	"rookery/view"
)

func wantError(t *testing.T, what string, got, want api.Errno, rest ...any) {
	t.Helper()
	if got != want {
		t.Errorf("%s: error %d, want %d", what, got, want)
	}
	if got == api.OK {
		return
	}
	for _, x := range rest {
		if !reflect.ValueOf(x).IsZero() {
			t.Errorf("%s: %v beside an error", what, x)
		}
	}
}

func firstOf(l ...api.Errno) api.Errno {
	for _, e := range l {
		if e != api.OK {
			return e
		}
	}
	return api.OK
}

func when(wrong bool, e api.Errno) api.Errno {
	if wrong {
		return e
	}
	return api.OK
}

// Asks, in short.
func made(set string) api.Ask { return api.Ask{Kind: api.Make, Set: set} }

func write(set, file, b string) api.Ask {
	return api.Ask{Kind: api.Write, Set: set, File: file, Bytes: []byte(b)}
}

func writeAt(set, file string, at int, b string) api.Ask {
	return api.Ask{Kind: api.Write, Set: set, File: file, At: at, Bytes: []byte(b)}
}

func cut(set, file string, n int) api.Ask {
	return api.Ask{Kind: api.Cut, Set: set, File: file, N: n}
}

func snap(set, to string) api.Ask      { return api.Ask{Kind: api.Snapshot, Set: set, To: to} }
func forget(set, to string) api.Ask    { return api.Ask{Kind: api.Forget, Set: set, To: to} }
func remove(set, file string) api.Ask  { return api.Ask{Kind: api.Remove, Set: set, File: file} }
func destroy(set string) api.Ask       { return api.Ask{Kind: api.Destroy, Set: set} }
func clone(set, to, as string) api.Ask { return api.Ask{Kind: api.Clone, Set: set, To: to, File: as} }
func rename(set, file, to string) api.Ask {
	return api.Ask{Kind: api.Rename, Set: set, File: file, To: to}
}

func read(set, file string) api.Ask {
	return api.Ask{Kind: api.Read, Set: set, File: file, N: api.MaxSize}
}

var uses = api.Ask{Kind: api.Uses}

// of is a pool that has just the blocks that it needs for tenants of these quotas.
func of(t *testing.T, quotas ...int) api.Pool {
	t.Helper()
	blocks, keys := api.Slack, []int{}
	for i, n := range quotas {
		blocks, keys = blocks+n, append(keys, 7+i)
	}
	p, e := pool.New(blocks, keys, quotas)
	if e != api.OK {
		t.Fatalf("quotas %v: error %d", quotas, e)
	}
	return p
}

// asked is p when the tenant i has asked all of l; the test stops if anything is refused.
func asked(t *testing.T, p api.Pool, i int, l ...api.Ask) api.Pool {
	t.Helper()
	for _, a := range l {
		next, answer, e := pool.Do(p, i, a)
		if e != api.OK || answer.E != api.OK {
			t.Fatalf("%v: error %d, %d", a, e, answer.E)
		}
		p = next
	}
	return p
}

func wantPrint(t *testing.T, what string, p api.Pool, i int, want string) {
	t.Helper()
	if got, e := view.Print(p, i); e != api.OK || got != want {
		t.Errorf("%s: error %d, %q, want %q", what, e, got, want)
	}
}

func printed(t *testing.T, p api.Pool, i int) string {
	t.Helper()
	s, e := view.Print(p, i)
	if e != api.OK {
		t.Fatalf("tenant %d: error %d", i, e)
	}
	return s
}

func wantAlike(t *testing.T, what string, p, q api.Pool, i int, want bool) {
	t.Helper()
	for _, l := range [][2]api.Pool{{p, q}, {q, p}} {
		if got, e := view.Alike(l[0], l[1], i); e != api.OK || got != want {
			t.Errorf("%s: tenant %d: %v, error %d, want %v", what, i, got, e, want)
		}
	}
	for _, l := range [][2]api.Pool{{p, p}, {q, q}} {
		if got, e := view.Alike(l[0], l[1], i); e != api.OK || !got {
			t.Errorf("%s: tenant %d, a pool and itself: %v, error %d", what, i, got, e)
		}
	}
}

// usesOf counts by a walk of its own what the tenant i has.
func usesOf(p api.Pool, i int) int {
	seen := map[int]bool{}
	var walk func(l []int)
	walk = func(l []int) {
		for _, a := range l {
			if a != 0 && !seen[a] {
				seen[a] = true
				walk(p.S.Blocks[a-1].Kids)
			}
		}
	}
	files := func(l []api.Entry) {
		for _, f := range l {
			walk([]int{f.F.Root})
		}
	}
	for _, x := range p.Tenants[i].Sets {
		files(x.Files)
		for _, s := range x.Snaps {
			files(s.Files)
		}
	}
	return len(seen)
}

// files are bytes by names; a folder is files and what they were; a home is what a tenant has. They are what asks that
// were not refused come to if there are no blocks, keys and roots at all.
type files map[string]string

type folder struct {
	now files
	was map[string]files
}

type home map[string]*folder

// do does to h what a asks, which was not refused.
func (h home) do(a api.Ask) {
	x := h[a.Set]
	switch a.Kind {
	case api.Make:
		h[a.Set] = &folder{files{}, map[string]files{}}
	case api.Destroy:
		delete(h, a.Set)
	case api.Write:
		b := []byte(x.now[a.File])
		if end := a.At + len(a.Bytes); len(a.Bytes) > 0 && end > len(b) {
			b = append(b, make([]byte, end-len(b))...)
		}
		if len(a.Bytes) > 0 {
			copy(b[a.At:], a.Bytes)
		}
		x.now[a.File] = string(b)
	case api.Cut:
		x.now[a.File] = (x.now[a.File] + strings.Repeat("\x00", api.MaxSize))[:a.N]
	case api.Remove:
		delete(x.now, a.File)
	case api.Rename:
		b := x.now[a.File]
		delete(x.now, a.File)
		x.now[a.To] = b
	case api.Snapshot:
		x.was[a.To] = maps.Clone(x.now)
	case api.Forget:
		delete(x.was, a.To)
	case api.Back:
		x.now = maps.Clone(x.was[a.To])
	case api.Clone:
		h[a.File] = &folder{maps.Clone(x.was[a.To]), map[string]files{}}
	}
}

// print is what P10.1 says of a tenant who has h, and uses n blocks of a quota.
func (h home) print(n, quota int) string {
	var out strings.Builder
	files := func(ahead string, l files) {
		for _, name := range slices.Sorted(maps.Keys(l)) {
			fmt.Fprintf(&out, "%s%s %d %x\n", ahead, name, len(l[name]), l[name])
		}
	}
	for _, name := range slices.Sorted(maps.Keys(h)) {
		fmt.Fprintf(&out, "set %s\n", name)
		files(" ", h[name].now)
		for _, to := range slices.Sorted(maps.Keys(h[name].was)) {
			fmt.Fprintf(&out, " at %s\n", to)
			files("  ", h[name].was[to])
		}
	}
	fmt.Fprintf(&out, "uses %d of %d\n", n, quota)
	return out.String()
}

func TestPrintByHand(t *testing.T) {
	p := of(t, 40, 9, 12)
	wantPrint(t, "without sets", p, 0, "uses 0 of 40\n")
	p = asked(t, p, 0, made("b"))
	wantPrint(t, "a set without files and snaps", p, 0, "set b\nuses 0 of 40\n")
	p = asked(t, p, 0, snap("b", "s"))
	wantPrint(t, "a snap without files", p, 0, "set b\n at s\nuses 0 of 40\n")
	p = asked(t, p, 0, write("b", "f", ""))
	wantPrint(t, "a file of Size 0", p, 0, "set b\n f 0 \n at s\nuses 0 of 40\n")
	p = asked(t, p, 0, write("b", "f", "\xa9"))
	wantPrint(t, "a file of one byte", p, 0, "set b\n f 1 a9\n at s\nuses 4 of 40\n")
	p = asked(t, p, 0, snap("b", "0"), snap("b", "z9"), writeAt("b", "f", 2, "\x0f\xf0\x10\x01"))
	wantPrint(t, "several snaps", p, 0,
		"set b\n f 6 a9000ff01001\n at 0\n  f 1 a9\n at s\n at z9\n  f 1 a9\nuses 9 of 40\n")
	p = asked(t, p, 0, write("b", "e", "Jk"), write("b", "10", "\x00"), cut("b", "10", 3), forget("b", "0"))
	wantPrint(t, "several files", p, 0,
		"set b\n 10 3 000000\n e 2 4a6b\n f 6 a9000ff01001\n at s\n at z9\n  f 1 a9\nuses 13 of 40\n")
	p = asked(t, p, 0, made("abcdefgh"), write("abcdefgh", "12345678", "one"), made("c"))
	p = asked(t, p, 0, snap("c", "n"), forget("b", "z9"))
	wantPrint(t, "several sets", p, 0, "set abcdefgh\n 12345678 3 6f6e65\nset b\n 10 3 000000\n e 2 4a6b\n"+
		" f 6 a9000ff01001\n at s\nset c\n at n\nuses 13 of 40\n")
	wantPrint(t, "the next tenant", p, 1, "uses 0 of 9\n")
	p = asked(t, p, 2, made("b"), write("b", "f", "mine"))
	wantPrint(t, "the last tenant", p, 2, "set b\n f 4 6d696e65\nuses 4 of 12\n")
}

// Each byte alone, and all of them in one file of just api.MaxSize.
func TestPrintBytes(t *testing.T) {
	const low = "0123456789abcdef"
	all, want := "", ""
	for _, high := range low {
		for _, digit := range low {
			b, told := string([]byte{byte(len(all))}), string(high)+string(digit)
			all, want = all+b, want+told
			p := asked(t, of(t, 8), 0, made("a"), write("a", "f", b))
			wantPrint(t, told, p, 0, fmt.Sprintf("set a\n f 1 %s\nuses %d of 8\n", told, usesOf(p, 0)))
		}
	}
	p := asked(t, of(t, 100), 0, made("a"), write("a", "f", all), snap("a", "s"))
	wantPrint(t, "all bytes", p, 0, "set a\n f 256 "+want+"\n at s\n  f 256 "+want+"\nuses 85 of 100\n")
	for n := range api.MaxSize + 1 {
		p := asked(t, p, 0, cut("a", "f", n))
		wantPrint(t, fmt.Sprint("cut to ", n), p, 0,
			fmt.Sprintf("set a\n f %d %s\n at s\n  f 256 %s\nuses %d of 100\n", n, want[:2*n], want, usesOf(p, 0)))
	}
	p = asked(t, of(t, 0), 0, made("a"), write("a", "f", ""), cut("a", "f", api.MaxSize))
	wantPrint(t, "noughts alone", p, 0, "set a\n f 256 "+strings.Repeat("00", api.MaxSize)+"\nuses 0 of 0\n")
}

// As much as a tenant may have.
func TestPrintTheMost(t *testing.T) {
	p, h := of(t, 10, 300), home{}
	all := func(a api.Ask) {
		h.do(a)
		p = asked(t, p, 1, a)
	}
	for _, set := range []string{"c", "zzzzzzzz", "0"} {
		all(made(set))
		for i, to := range []string{"y", "x", "z"} {
			for _, name := range []string{"b", "a", "q", "9", "8", "zzzzzzzz"} {
				all(writeAt(set, name, 60*i, name[:1]+set[:1]+to))
			}
			all(snap(set, to))
		}
		all(cut(set, "a", 1))
	}
	if len(h) != api.MaxSets || len(h["c"].now) != api.MaxFiles || len(h["c"].was) != api.MaxSnaps {
		t.Fatalf("%v", h)
	}
	wantPrint(t, "the most", p, 1, h.print(usesOf(p, 1), 300))
	wantPrint(t, "beside it", p, 0, "uses 0 of 10\n")
	wantAlike(t, "the most", p, of(t, 10, 300), 0, true)
	wantAlike(t, "the most", p, of(t, 10, 300), 1, false)
}

// Pools of no tenant up to the most that there may be: each of them, and such as aren't there.
func TestWhoIsThere(t *testing.T) {
	for n := range api.MaxTenants + 1 {
		p := of(t, []int{5, 6, 7}[:n]...)
		for i := range n {
			p = asked(t, p, i, made(fmt.Sprint("s", i)), write(fmt.Sprint("s", i), "f", string(rune('A'+i))))
		}
		for i := range n {
			wantPrint(t, fmt.Sprint(i, " of ", n), p, i, fmt.Sprintf("set s%d\n f 1 %x\nuses 4 of %d\n", i, 'A'+i, 5+i))
			wantAlike(t, fmt.Sprint(i, " of ", n), p, p, i, true)
			wantAlike(t, fmt.Sprint(i, " of ", n), p, of(t, []int{5, 6, 7}[:n]...), i, false)
		}
		for _, i := range []int{-1, n, n + 1, api.MaxTenants, math.MinInt, math.MaxInt} {
			s, e := view.Print(p, i)
			wantError(t, fmt.Sprint(i, " of ", n), e, api.ErrWho, s)
			same, e := view.Alike(p, p, i)
			wantError(t, fmt.Sprint(i, " of ", n), e, api.ErrWho, same)
		}
	}
	s, e := view.Print(api.Pool{}, 0)
	wantError(t, "nothing at all", e, api.ErrWho, s)
	same, e := view.Alike(api.Pool{}, api.Pool{}, 0)
	wantError(t, "nothing at all", e, api.ErrWho, same)
}

// Two pools that differ in one thing that this tenant has, or that another one has.
func TestAlikeInWhatTenantsHave(t *testing.T) {
	base := []api.Ask{made("a"), write("a", "f", "one"), write("a", "g", "two"), snap("a", "s"), write("a", "f", "six"), made("b")}
	for _, c := range []struct {
		what string
		more []api.Ask
	}{
		{"a set more", []api.Ask{made("c")}},
		{"a set fewer", []api.Ask{destroy("b")}},
		{"another set", []api.Ask{destroy("b"), made("c")}},
		{"a file more", []api.Ask{write("a", "h", "")}},
		{"a file fewer", []api.Ask{remove("a", "f")}},
		{"a file of another name", []api.Ask{rename("a", "f", "h")}},
		{"files for each other", []api.Ask{rename("a", "f", "h"), rename("a", "g", "f"), rename("a", "h", "g")}},
		{"a file in another set", []api.Ask{remove("a", "f"), write("b", "f", "six")}},
		{"one byte", []api.Ask{writeAt("a", "f", 1, "o")}},
		{"one bit of the high half", []api.Ask{write("a", "f", "S")}},
		{"a nought more", []api.Ask{cut("a", "f", 4)}},
		{"a byte fewer", []api.Ask{cut("a", "f", 2)}},
		{"the last byte that may be", []api.Ask{writeAt("a", "f", api.MaxSize-1, "x")}},
		{"a snap more", []api.Ask{snap("a", "t")}},
		{"a snap of another set", []api.Ask{snap("b", "s")}},
		{"a snap fewer", []api.Ask{forget("a", "s")}},
		{"a snap of the same name", []api.Ask{forget("a", "s"), snap("a", "s")}},
		{"back to a snap", []api.Ask{{Kind: api.Back, Set: "a", To: "s"}}},
		{"a clone", []api.Ask{clone("a", "s", "c")}},
	} {
		p := asked(t, asked(t, of(t, 40, 41, 42), 0, base...), 2, base...)
		for i := range 3 {
			if i == 1 {
				continue
			}
			q := asked(t, p, i, c.more...)
			for j := range 3 {
				wantAlike(t, fmt.Sprint(c.what, " of tenant ", i), p, q, j, i != j)
			}
		}
	}
	p := asked(t, of(t, 40, 41), 0, base...)
	for i := range 2 {
		wantAlike(t, "all asked again, of nothing", p, asked(t, of(t, 40, 41), 0, base...), i, true)
		wantAlike(t, "a look", p, asked(t, p, i, uses), i, true)
	}
	wantAlike(t, "there and back", p, asked(t, p, 0, write("a", "f", "xxx"), snap("a", "t"), write("a", "f", "six"), forget("a", "t")), 0, true)
}

// moved is p with its blocks laid in the other order.
func moved(p api.Pool) api.Pool {
	n := len(p.S.Blocks)
	to := func(a int) int {
		if a == 0 {
			return 0
		}
		return n + 1 - a
	}
	q := roomyPool(p)
	slices.Reverse(q.S.Blocks)
	for _, b := range q.S.Blocks {
		for k := range b.Kids {
			b.Kids[k] = to(b.Kids[k])
		}
	}
	files := func(l []api.Entry) {
		for k := range l {
			l[k].F.Root = to(l[k].F.Root)
		}
	}
	for _, own := range q.Tenants {
		for _, x := range own.Sets {
			files(x.Files)
			for _, s := range x.Snaps {
				files(s.Files)
			}
		}
	}
	return q
}

// Two pools that differ in where the blocks lie, how many there are, what is shared, a quota, a key.
func TestAlikeInWhereAndHow(t *testing.T) {
	p := town(t)
	if e := pool.Check(moved(p)); e != api.OK || store.Same(p.S, moved(p).S) {
		t.Fatalf("nothing was moved, or error %d", e)
	}
	for i := range p.Tenants {
		wantAlike(t, "blocks elsewhere", p, moved(p), i, true)
		more := p
		more.S.Blocks = append(slices.Clone(p.S.Blocks), make([]api.Block, 9)...)
		wantAlike(t, "more free blocks", p, more, i, true)
	}
	asks := []api.Ask{made("a"), write("a", "f", "one"), snap("a", "s"), write("a", "f", "two")}
	late := asked(t, of(t, 20, 30), 1, made("a"), write("a", "f", strings.Repeat("x", 20)))
	late = asked(t, asked(t, late, 0, asks...), 1, destroy("a"))
	early := asked(t, of(t, 20, 30), 0, asks...)
	if store.Same(late.S, early.S) {
		t.Fatal("the blocks lie alike")
	}
	wantAlike(t, "behind others", early, late, 0, true)
	wantAlike(t, "who was there", early, late, 1, true)
	shared := asked(t, of(t, 20), 0, made("a"), write("a", "f", "one"), snap("a", "s"), clone("a", "s", "b"), forget("a", "s"))
	apart := asked(t, of(t, 20), 0, made("a"), write("a", "f", "one"), made("b"), write("b", "f", "one"))
	wantPrint(t, "shared", shared, 0, "set a\n f 3 6f6e65\nset b\n f 3 6f6e65\nuses 4 of 20\n")
	wantPrint(t, "apart", apart, 0, "set a\n f 3 6f6e65\nset b\n f 3 6f6e65\nuses 8 of 20\n")
	wantAlike(t, "what is shared", shared, apart, 0, false)
	for i := range 2 {
		other := asked(t, of(t, 20+i, 31-i), 0, asks...)
		wantAlike(t, "a quota", early, other, 0, i == 0)
		wantAlike(t, "a quota", early, other, 1, i == 1)
	}
	rekeyed, e := pool.New(140, []int{0, api.MaxKey}, []int{20, 30})
	wantError(t, "other keys", e, api.OK)
	rekeyed = asked(t, rekeyed, 0, asks...)
	if store.Same(api.Store{Blocks: rekeyed.S.Blocks[:20]}, api.Store{Blocks: early.S.Blocks[:20]}) {
		t.Fatal("another key seals alike")
	}
	wantAlike(t, "a key", early, rekeyed, 0, true)
	wantAlike(t, "a key", early, rekeyed, 1, true)
	fewer := asked(t, of(t, 20), 0, asks...)
	wantAlike(t, "nobody else is there", early, fewer, 0, true)
}

// Two pools that differ in a key alone: the blocks are the same, so that they are others' bytes when opened.
func TestAlikeInAKeyAlone(t *testing.T) {
	p := asked(t, of(t, 9, 9), 0, made("a"), write("a", "f", "four"))
	q := roomyPool(p)
	q.Tenants[0].Key++
	wantAlike(t, "who has a file", p, q, 0, false)
	wantAlike(t, "who is beside", p, q, 1, true)
	q = roomyPool(p)
	q.Tenants[1].Key++
	wantAlike(t, "who is beside", p, q, 0, true)
	wantAlike(t, "who has no file", p, q, 1, true)
	q = asked(t, p, 0, cut("a", "f", 3))
	q.Tenants[0].Key++
	for i := range 2 {
		for _, l := range [][2]api.Pool{{p, q}, {q, p}} {
			same, e := view.Alike(l[0], l[1], i)
			wantError(t, "a file that isn't right by that key", e, api.ErrForm, same)
		}
	}
}

func toldAsks(l []api.Ask) string {
	var out []string
	for _, a := range l {
		out = append(out, fmt.Sprintf("%d %q %q %q %d %d %q", a.Kind, a.Set, a.File, a.To, a.At, a.N, a.Bytes))
	}
	return strings.Join(out, "; ")
}

// wantAlone: Alone answers what P10.2 says; it answers that.
func wantAlone(t *testing.T, what string, who []int, l []api.Ask, i int) ([]api.Ask, []int) {
	t.Helper()
	var asks []api.Ask
	var places []int
	for k := range l {
		if who[k] == i {
			asks, places = append(asks, l[k]), append(places, k)
		}
	}
	got, at, e := view.Alone(who, l, i)
	if e != api.OK || toldAsks(got) != toldAsks(asks) || len(got) != len(asks) || !slices.Equal(at, places) {
		t.Errorf("%s: tenant %d: error %d, %v at %v, want %v at %v", what, i, e, got, at, asks, places)
	}
	return got, at
}

func TestAloneByHand(t *testing.T) {
	l := []api.Ask{
		made("a"), write("a", "f", "mine"), made("a"), read("a", "f"), {Kind: 99, Set: "?", File: "*", To: "!", At: -1, N: -2}, uses,
	}
	who := []int{1, 0, 0, 1, 1, -7}
	for _, c := range []struct {
		i      int
		places []int
	}{
		{0, []int{1, 2}}, {1, []int{0, 3, 4}}, {-7, []int{5}}, {2, nil}, {-1, nil}, {math.MaxInt, nil}, {math.MinInt, nil},
	} {
		asks, places := wantAlone(t, "by hand", who, l, c.i)
		if !slices.Equal(places, c.places) {
			t.Fatalf("tenant %d: %v, want %v", c.i, places, c.places)
		}
		for k, at := range c.places {
			if !reflect.DeepEqual(asks[k], l[at]) {
				t.Errorf("tenant %d: %v, want %v", c.i, asks[k], l[at])
			}
		}
	}
}

func TestAloneOfScripts(t *testing.T) {
	some := func(n int) []api.Ask {
		l := make([]api.Ask, n)
		for k := range l {
			l[k] = api.Ask{Kind: k % 15, Set: fmt.Sprint("s", k), File: "f", To: "t", At: k, N: -k, Bytes: bytes.Repeat([]byte{byte(k)}, 7*k)}
		}
		return l
	}
	for _, n := range []int{0, 1, 2, 3, api.MaxScript - 1, api.MaxScript} {
		turns := make([]int, n)
		for k := range turns {
			turns[k] = k % 3
		}
		halves := make([]int, n)
		for k := range n / 2 {
			halves[k] = 1
		}
		for what, who := range map[string][]int{
			"all of one": make([]int, n), "all of another": slices.Repeat([]int{1}, n), "in turns": turns, "one behind the other": halves,
			"of nobody": slices.Repeat([]int{-1}, n), "of far ones": slices.Repeat([]int{math.MaxInt}, n),
		} {
			many := 0
			for _, i := range []int{0, 1, 2, 3, -1, math.MaxInt, math.MinInt} {
				asks, _ := wantAlone(t, fmt.Sprint(n, " asks, ", what), who, some(n), i)
				many += len(asks)
			}
			if many != n {
				t.Errorf("%d asks, %s: %d were told", n, what, many)
			}
		}
	}
	for _, l := range [][]api.Ask{nil, {}} {
		for _, who := range [][]int{nil, {}} {
			asks, places, e := view.Alone(who, l, 0)
			if e != api.OK || len(asks) != 0 || len(places) != 0 {
				t.Errorf("no asks: %v, %v, error %d", asks, places, e)
			}
		}
	}
}

// What Alone refuses is what chapter 6's Run refuses of a right pool.
func TestAloneRefuses(t *testing.T) {
	p := of(t, 5)
	for _, n := range []int{0, 1, 59, 60, 61, 62, 500} {
		for _, m := range []int{0, 1, 59, 60, 61, 62, 500} {
			want := firstOf(when(n > 60, api.ErrMany), when(n != m, api.ErrForm))
			for _, i := range []int{0, 1, -1} {
				asks, places, e := view.Alone(make([]int, m), make([]api.Ask, n), i)
				wantError(t, fmt.Sprint(n, " asks of ", m), e, want, asks, places)
			}
			q, answers, e := pool.Run(p, make([]int, m), make([]api.Ask, n))
			wantError(t, fmt.Sprint("Run: ", n, " asks of ", m), e, want, q, answers)
		}
	}
}

// town is a right pool. The first tenant has two sets, the second one, with the same key, as many as may be, which share
// all their blocks and come to just the quota; the third one has none.
func town(t *testing.T) api.Pool {
	t.Helper()
	p, e := pool.New(api.Slack+53, []int{7, 7, api.MaxKey}, []int{40, 4, 9})
	if e != api.OK {
		t.Fatal(e)
	}
	p = asked(t, p, 0, made("b"), write("b", "f", "one!"), writeAt("b", "g", 2, "two leaves"), snap("b", "s"),
		writeAt("b", "f", 1, "x"), snap("b", "t"), made("d"), write("d", "h", "one!"))
	return asked(t, p, 1, made("a"), write("a", "f", "one!"), snap("a", "m"), clone("a", "m", "c"), made("e"))
}

func sameAnswer(x, y api.Answer) bool {
	return x.E == y.E && x.N == y.N && slices.Equal(x.Names, y.Names) && bytes.Equal(x.Bytes, y.Bytes)
}

func wantSameAnswers(t *testing.T, what string, all []api.Answer, places []int, alone []api.Answer) {
	t.Helper()
	if len(alone) != len(places) {
		t.Fatalf("%s: %d answers of %d asks", what, len(alone), len(places))
	}
	for k, at := range places {
		if !sameAnswer(all[at], alone[k]) {
			t.Fatalf("%s: ask %d: %v, alone %v", what, at, all[at], alone[k])
		}
	}
}

// ran is what Run leaves and answers; the test stops if it is refused.
func ran(t *testing.T, what string, p api.Pool, who []int, l []api.Ask) (api.Pool, []api.Answer) {
	t.Helper()
	q, answers, e := pool.Run(p, who, l)
	if e != api.OK {
		t.Fatalf("%s: error %d", what, e)
	}
	return q, answers
}

// wantUnseen: each tenant sees the same, and is told the same, whether others ask or not; it answers what Run answers.
func wantUnseen(t *testing.T, what string, p api.Pool, who []int, l []api.Ask) (api.Pool, []api.Answer) {
	t.Helper()
	q, answers := ran(t, what, p, who, l)
	for i := range p.Tenants {
		asks, places := wantAlone(t, what, who, l, i)
		r, alone := ran(t, what, p, slices.Repeat([]int{i}, len(asks)), asks)
		wantAlike(t, what, q, r, i, true)
		wantSameAnswers(t, what, answers, places, alone)
		for j := range p.Tenants {
			if j != i {
				wantAlike(t, what+", who asked nothing", p, r, j, true)
			}
		}
	}
	for _, i := range []int{-1, len(p.Tenants)} {
		asks, places := wantAlone(t, what, who, l, i)
		r, alone := ran(t, what, p, slices.Repeat([]int{i}, len(asks)), asks)
		wantSameAnswers(t, what, answers, places, alone)
		for j := range p.Tenants {
			wantAlike(t, what+", by nobody", p, r, j, true)
		}
		same, e := view.Alike(q, r, i)
		wantError(t, what, e, api.ErrWho, same)
	}
	return q, answers
}

// wantByItself: the tenant i of q, whose pool began empty, sees and is told the same as where nobody else is at all.
func wantByItself(t *testing.T, what string, q api.Pool, answers []api.Answer, who []int, l []api.Ask, i int) {
	t.Helper()
	own := q.Tenants[i]
	asks, places := wantAlone(t, what, who, l, i)
	for _, blocks := range []int{api.Slack + own.Quota, api.MaxBlocks} {
		p, e := pool.New(blocks, []int{own.Key}, []int{own.Quota})
		if e != api.OK {
			t.Fatalf("%s: error %d", what, e)
		}
		r, alone := ran(t, what, p, make([]int, len(asks)), asks)
		wantSameAnswers(t, what, answers, places, alone)
		wantPrint(t, what, r, 0, printed(t, q, i))
	}
	h := home{}
	for k, a := range asks {
		if answers[places[k]].E == api.OK {
			h.do(a)
		}
	}
	wantPrint(t, what+", by bytes alone", q, i, h.print(usesOf(q, i), own.Quota))
}

func someAsk(r *rand.Rand) api.Ask {
	pick := func(l ...string) string { return l[r.Intn(len(l))] }
	kinds := []int{api.Write, api.Write, api.Write, api.Write, api.Cut, api.Snapshot, api.Clone, api.Make, api.Make, api.Read, 1 + r.Intn(13), 1 + r.Intn(13), r.Intn(16)}
	a := api.Ask{
		Kind: kinds[r.Intn(len(kinds))], Set: pick("a", "a", "b", "c", "d"), File: pick("a", "b", "c", "d", "f"), To: pick("a", "c", "s"),
		At: r.Intn(30), N: r.Intn(60), Bytes: make([]byte, r.Intn(30)),
	}
	if r.Intn(8) == 0 {
		edges := []int{-1, 0, 100, 250, api.MaxSize, api.MaxSize + 1}
		a.At, a.N, a.Bytes = edges[r.Intn(6)], edges[r.Intn(6)], make([]byte, r.Intn(api.MaxSize))
	}
	if r.Intn(25) == 0 {
		a.Set, a.File, a.To = pick("a", "", "A"), pick("a", "", "toolong89"), pick("s", "", "a b")
	}
	for i := range a.Bytes {
		a.Bytes[i] = []byte{0, 0, 'x', 0xf0, 0x0a, byte(r.Intn(256))}[r.Intn(6)]
	}
	return a
}

// someScript is asks of tenants from -1 to n, most often of such as are there.
func someScript(r *rand.Rand, n int) ([]int, []api.Ask) {
	many := r.Intn(api.MaxScript + 1)
	if r.Intn(3) == 0 {
		many = api.MaxScript
	}
	who, l := make([]int, many), make([]api.Ask, many)
	for k := range l {
		who[k], l[k] = r.Intn(n), someAsk(r)
		if r.Intn(15) == 0 {
			who[k] = r.Intn(n+2) - 1
		}
	}
	return who, l
}

// Many scripts of many tenants, in pools without slack to spare: what is seen and told of others is nothing.
func TestManyScripts(t *testing.T) {
	told := map[api.Errno]int{}
	for seed := range int64(60) {
		r := rand.New(rand.NewSource(seed))
		quotas := make([]int, 1+r.Intn(api.MaxTenants))
		for i := range quotas {
			quotas[i] = r.Intn(100)
		}
		p := of(t, quotas...)
		who, l := someScript(r, len(quotas))
		what := fmt.Sprint("seed ", seed)
		q, answers := wantUnseen(t, what, p, who, l)
		for i := range quotas {
			wantByItself(t, what, q, answers, who, l, i)
		}
		for _, answer := range answers {
			told[answer.E]++
		}
		// And from what these left on.
		who, l = someScript(r, len(quotas))
		wantUnseen(t, what+", then", q, who, l)
	}
	for _, e := range []api.Errno{api.OK, api.ErrText, api.ErrMany, api.ErrRange, api.ErrForm, api.ErrWho, api.ErrTwice, api.ErrFull} {
		if told[e] < 10 {
			t.Errorf("error %d was told %d times only", e, told[e])
		}
	}
}

// The same asks of one tenant among whatever others ask.
func TestWhateverOthersAsk(t *testing.T) {
	full := strings.Repeat("full", api.MaxSize/4)
	mine := []api.Ask{
		made("a"), write("a", "f", "mine"), writeAt("a", "f", 4, "more"), snap("a", "s"), write("a", "f", "else"), clone("a", "s", "b"),
		write("b", "g", full), read("a", "f"), uses, made("c"), made("d"), {Kind: api.List, Set: "b"}, destroy("a"), uses,
	}
	p := of(t, 9, 150, 85)
	r, want := ran(t, "alone", p, make([]int, len(mine)), mine)
	if want[6].E != api.ErrFull || want[10].E != api.ErrMany {
		t.Fatalf("not refused: %v", want)
	}
	for seed := range int64(40) {
		random := rand.New(rand.NewSource(seed))
		others := []api.Ask{made("a"), write("a", "f", full), made("b"), write("b", "f", full), snap("a", "s"), write("a", "f", "x")}
		var who []int
		var l []api.Ask
		for next := 0; next < len(mine); {
			if random.Intn(3) == 0 || len(l)+len(mine)-next >= api.MaxScript {
				who, l = append(who, 0), append(l, mine[next])
				next++
				continue
			}
			a := someAsk(random)
			if len(others) > 0 && random.Intn(3) > 0 {
				a, others = others[0], others[1:]
			}
			who, l = append(who, 1+random.Intn(2)), append(l, a)
		}
		what := fmt.Sprint("seed ", seed)
		q, answers := wantUnseen(t, what, p, who, l)
		_, places := wantAlone(t, what, who, l, 0)
		wantSameAnswers(t, what, answers, places, want)
		wantAlike(t, what, q, r, 0, true)
	}
}

// Where all have as much as they may, one who turns all their bytes is seen to be refused for nothing of others'.
func TestWhereAllIsUsed(t *testing.T) {
	full := func(c string) string { return strings.Repeat(c, api.MaxSize) }
	p := of(t, 85, 85, 89)
	var who []int
	var l []api.Ask
	for i := range 3 {
		who, l = append(who, i, i), append(l, made("a"), write("a", "f", full("x")))
	}
	who, l = append(who, 2), append(l, write("a", "g", "z"))
	for _, i := range []int{0, 2, 1, 1, 0} {
		who = append(who, i, i, i)
		l = append(l, write("a", "f", full(fmt.Sprint(len(l)%10))), writeAt("a", "h", 9, full("y")[:api.MaxSize-9]), uses)
	}
	q, answers := wantUnseen(t, "all is used", p, who, l)
	for k, want := range slices.Concat(make([]api.Errno, 7), slices.Repeat([]api.Errno{api.OK, api.ErrFull, api.OK}, 5)) {
		if answers[k].E != want {
			t.Errorf("%d: %v, want %d", k, answers[k], want)
		}
	}
	if n, _ := store.Used(q.S); n != len(q.S.Blocks)-api.Slack {
		t.Errorf("%d blocks are used", n)
	}
	for i := range 3 {
		wantByItself(t, "all is used", q, answers, who, l, i)
	}
}

// From the town on: scripts without asks, of one tenant alone, of others alone, in turns, the most asks.
func TestScriptsInTheTown(t *testing.T) {
	p := town(t)
	l := []api.Ask{made("z"), write("z", "f", "1234"), write("z", "f", "12345"), snap("z", "s"), write("b", "f", "?"), write("a", "f", "?"), uses}
	for _, c := range []struct {
		what string
		who  []int
		l    []api.Ask
	}{
		{"nothing", nil, nil},
		{"of the first", []int{0, 0, 0, 0, 0, 0, 0}, l},
		{"of the second", []int{1, 1, 1, 1, 1, 1, 1}, l},
		{"of the last", []int{2, 2, 2, 2, 2, 2, 2}, l},
		{"of nobody", []int{3, -1, 3, -1, 3, -1, 3}, l},
		{"in turns", []int{0, 1, 2, 0, 1, 2, 0}, l},
		{"in other turns", []int{2, 2, 1, 2, 0, 1, 2}, l},
		{"the most", slices.Repeat([]int{2, 0, 1, 0, 2, 2}, 10), slices.Concat(slices.Repeat(l, 8), l[:4])},
	} {
		wantUnseen(t, c.what, p, c.who, c.l)
	}
}

// fault is one thing that is wrong with the town, and the error that tells of it.
type fault struct {
	what string
	want api.Errno
	turn func(p *api.Pool)
}

func faultsOfStore() []fault {
	lay := func(what string, want api.Errno, at int, b api.Block) fault {
		return fault{what, want, func(p *api.Pool) { p.S.Blocks[at] = b }}
	}
	return []fault{
		{"too many blocks", api.ErrMany, func(p *api.Pool) { p.S.Blocks = append(p.S.Blocks, make([]api.Block, api.MaxBlocks)...) }},
		lay("a free block that isn't zero", api.ErrForm, 120, api.Block{Level: 1}),
		lay("negative Refs", api.ErrRange, 121, api.Block{Refs: -1, Bytes: make([]byte, 4)}),
		lay("a great Level", api.ErrRange, 122, api.Block{Refs: 1, Level: api.Top + 1}),
		lay("a short leaf", api.ErrForm, 123, api.Block{Refs: 1, Bytes: []byte{1}}),
		lay("no such kid", api.ErrWho, 124, api.Block{Refs: 1, Level: 1, Kids: []int{999, 0, 0, 0}}),
		lay("no kid", api.ErrForm, 125, api.Block{Refs: 1, Level: 1, Kids: make([]int, 4)}),
		lay("held too rarely", api.ErrHeld, 126, api.Block{Refs: 1, Level: 1, Kids: []int{1, 1, 1, 1}}),
		{"too many tenants", api.ErrMany, func(p *api.Pool) {
			p.Tenants = append(slices.Clone(p.Tenants), make([]api.Tenant, api.MaxTenants)...)
		}},
	}
}

// faultsOfSet are what may be wrong with the set j of the tenant i, in the order of chapter 5.
func faultsOfSet(i, j int) []fault {
	in := func(what string, want api.Errno, turn func(x *api.Set)) fault {
		return fault{fmt.Sprintf("tenant %d, set %d: %s", i, j, what), want, func(p *api.Pool) { turn(&p.Tenants[i].Sets[j]) }}
	}
	files := func(what string, want api.Errno, l ...api.Entry) fault {
		return in(what, want, func(x *api.Set) { x.Files = l })
	}
	snaps := func(what string, want api.Errno, l ...api.Snap) fault {
		return in(what, want, func(x *api.Set) { x.Snaps = l })
	}
	a := func(root, size int) api.Entry { return api.Entry{Name: "a", F: api.File{Root: root, Size: size}} }
	return []fault{
		in("no name", api.ErrText, func(x *api.Set) { x.Name = "a b" }),
		files("too many files", api.ErrMany, make([]api.Entry, api.MaxFiles+1)...),
		files("no name of a file", api.ErrText, api.Entry{Name: "A"}),
		files("the same name of files", api.ErrTwice, a(0, 0), a(0, 0)),
		files("a great size", api.ErrRange, a(0, api.MaxSize+1)),
		files("a negative size", api.ErrRange, a(0, -1)),
		files("no such root", api.ErrWho, a(999, 4)),
		files("a leaf as root", api.ErrForm, a(1, 4)),
		files("bytes behind the size", api.ErrForm, a(4, 1)),
		snaps("too many snaps", api.ErrMany, make([]api.Snap, api.MaxSnaps+1)...),
		snaps("no name of a snap", api.ErrText, api.Snap{}),
		snaps("no such root in a snap", api.ErrWho, api.Snap{Name: "a", Files: []api.Entry{a(-1, 4)}}),
		snaps("the same name of snaps", api.ErrTwice, api.Snap{Name: "a"}, api.Snap{Name: "a"}),
	}
}

// faultsOfTenant are what may be wrong with the tenant i of the town, in the order of chapter 6.
func faultsOfTenant(i, sets int) []fault {
	in := func(what string, want api.Errno, turn func(t *api.Tenant)) fault {
		return fault{fmt.Sprintf("tenant %d: %s", i, what), want, func(p *api.Pool) { turn(&p.Tenants[i]) }}
	}
	l := []fault{
		in("a great key", api.ErrRange, func(t *api.Tenant) { t.Key = api.MaxKey + 1 }),
		in("a negative quota", api.ErrRange, func(t *api.Tenant) { t.Quota = -1 }),
		in("too many sets", api.ErrMany, func(t *api.Tenant) { t.Sets = append(slices.Clone(t.Sets), make([]api.Set, api.MaxSets+1)...) }),
	}
	for j := range sets {
		l = append(l, faultsOfSet(i, j)...)
		if j > 0 {
			l = append(l, in(fmt.Sprint("the same name of sets, ", j), api.ErrTwice, func(t *api.Tenant) { t.Sets[j].Name = t.Sets[j-1].Name }))
		}
	}
	return append(l, fault{fmt.Sprintf("tenant %d: no room for the quota", i), api.ErrFull, func(p *api.Pool) {
		room := len(p.S.Blocks) - api.Slack
		for j := range i {
			room -= p.Tenants[j].Quota
		}
		p.Tenants[i].Quota = min(max(room+1, 0), api.MaxBlocks)
	}})
}

// faults are what may be wrong with the town, in the order in which chapter 6's Check tells it.
func faults() []fault {
	root := func(p *api.Pool) int { return p.Tenants[0].Sets[0].Files[0].F.Root }
	return slices.Concat(faultsOfStore(), faultsOfTenant(0, 2),
		[]fault{{"tenant 0: more blocks than the quota", api.ErrFull, func(p *api.Pool) { p.Tenants[0].Quota = 17 }}},
		faultsOfTenant(1, 3),
		[]fault{{"tenant 1: more blocks than the quota", api.ErrFull, func(p *api.Pool) { p.Tenants[1].Quota = 3 }}},
		faultsOfTenant(2, 0),
		[]fault{
			{"tenant 2: a root of tenant 0", api.ErrHeld, func(p *api.Pool) {
				p.Tenants[2].Sets = []api.Set{{Name: "a", Files: []api.Entry{{Name: "f", F: api.File{Root: root(p), Size: api.MaxSize}}}}}
			}},
			{"held once more", api.ErrHeld, func(p *api.Pool) { p.S.Blocks[root(p)-1].Refs++ }},
			{"held by nobody", api.ErrHeld, func(p *api.Pool) { p.S.Blocks[130] = api.Block{Refs: 1, Bytes: make([]byte, 4)} }},
		})
}

// turned is p with these wrong, the last of them first, so that what the first one turns stays so.
func turned(p api.Pool, l ...fault) api.Pool {
	p = roomyPool(p)
	for _, f := range slices.Backward(l) {
		f.turn(&p)
	}
	return p
}

// Each fault of a pool alone, with each later one beside it, and with a tenant who isn't there.
func TestFaultsInTheirOrder(t *testing.T) {
	right, l := town(t), faults()
	for i, first := range l {
		for j := i; j < len(l); j++ {
			p := turned(right, first, l[j])
			what := first.what + "; " + l[j].what
			for _, who := range []int{j % 3, 3, -1} {
				s, e := view.Print(p, who)
				wantError(t, "Print: "+what, e, first.want, s)
			}
			same, e := view.Alike(p, p, j%3)
			wantError(t, "Alike: "+what, e, first.want, same)
		}
	}
}

// What is wrong with p is told ahead of what is wrong with q, and that the tenant isn't there is wrong with p, too.
func TestAlikeTellsOfTheFirstPoolFirst(t *testing.T) {
	right, l := town(t), faults()
	fewer := api.Pool{S: api.Store{Blocks: make([]api.Block, api.Slack+5)}, Tenants: []api.Tenant{{Quota: 5}}}
	for k, f := range l {
		wrong, other := turned(right, f), turned(right, l[(k*7+11)%len(l)])
		for _, c := range []struct {
			what string
			p, q api.Pool
			i    int
			want api.Errno
		}{
			{"of p", wrong, right, 0, f.want},
			{"of q", right, wrong, 0, f.want},
			{"of both", wrong, other, 0, f.want},
			{"of both, and nobody is there", wrong, other, 3, f.want},
			{"of p, and nobody is there", wrong, right, -1, f.want},
			{"of p, and nobody is there in q", wrong, fewer, 2, f.want},
			{"of q, and nobody is there", right, wrong, 3, api.ErrWho},
			{"of q, and nobody is there in p", fewer, wrong, 1, api.ErrWho},
			{"of q, and all is right in p", fewer, wrong, 0, f.want},
		} {
			same, e := view.Alike(c.p, c.q, c.i)
			wantError(t, f.what+", "+c.what, e, c.want, same)
		}
	}
	for _, i := range []int{1, 2, 3, -1} {
		for _, l := range [][2]api.Pool{{right, fewer}, {fewer, right}} {
			same, e := view.Alike(l[0], l[1], i)
			wantError(t, fmt.Sprint("nobody is there: ", i), e, api.ErrWho, same)
		}
	}
	wantAlike(t, "who is there in both", right, fewer, 0, false)
}

// roomy is l with spare room behind it, filled with x.
func roomy[T any](l []T, x T) []T {
	out := append(make([]T, 0, len(l)+9), l...)
	for i := len(l); i < cap(out); i++ {
		out[:cap(out)][i] = x
	}
	return out
}

func roomyFiles(l []api.Entry) []api.Entry {
	return roomy(l, api.Entry{Name: "spare", F: api.File{Size: 1}})
}

// roomyPool is p, all its lists with spare room behind them.
func roomyPool(p api.Pool) api.Pool {
	blocks := roomy(p.S.Blocks, api.Block{Refs: 1})
	for i, b := range blocks {
		if b.Refs > 0 {
			blocks[i].Kids, blocks[i].Bytes = roomy(b.Kids, 3), roomy(b.Bytes, 3)
		}
	}
	tenants := roomy(p.Tenants, api.Tenant{Key: 9})
	for i := range tenants {
		tenants[i].Sets = roomy(tenants[i].Sets, api.Set{Name: "spare"})
		for j, x := range tenants[i].Sets {
			snaps := roomy(x.Snaps, api.Snap{Name: "spare"})
			for k := range snaps {
				snaps[k].Files = roomyFiles(snaps[k].Files)
			}
			tenants[i].Sets[j] = api.Set{Name: x.Name, Files: roomyFiles(x.Files), Snaps: snaps}
		}
	}
	return api.Pool{S: api.Store{Blocks: blocks}, Tenants: tenants}
}

// whole tells all of a pool, with the spare room of its lists.
func whole(p api.Pool) string {
	var b strings.Builder
	list := func(x any) {
		v := reflect.ValueOf(x)
		fmt.Fprint(&b, v.Len(), v.Slice(0, v.Cap()))
	}
	list(p.S.Blocks)
	for _, x := range p.S.Blocks {
		list(x.Kids)
		list(x.Bytes)
	}
	list(p.Tenants)
	for _, own := range p.Tenants {
		list(own.Sets)
		for _, x := range own.Sets {
			list(x.Files)
			list(x.Snaps)
			for _, s := range x.Snaps {
				list(s.Files)
			}
		}
	}
	return b.String()
}

// Print and Alike change nothing, and say the same again, of right pools and of wrong ones.
func TestPoolsAreOnlyRead(t *testing.T) {
	right := town(t)
	pools := []api.Pool{roomyPool(right), roomyPool(moved(right))}
	for _, f := range faults() {
		pools = append(pools, turned(right, f))
	}
	for k, p := range pools {
		q := pools[k%2]
		was := whole(p) + whole(q)
		for _, i := range []int{-1, 0, 1, 2, 3} {
			s, e := view.Print(p, i)
			again, f := view.Print(p, i)
			same, g := view.Alike(p, q, i)
			other, h := view.Alike(p, q, i)
			if s != again || e != f || same != other || g != h || whole(p)+whole(q) != was {
				t.Fatalf("pool %d, tenant %d: what is handed in was changed, or something else is said", k, i)
			}
		}
	}
}

func wholeScript(who []int, l []api.Ask) string {
	told := fmt.Sprint(len(who), who[:cap(who)], len(l), l[:cap(l)])
	for _, a := range l {
		told += fmt.Sprint(len(a.Bytes), a.Bytes[:cap(a.Bytes)])
	}
	return told
}

// listsOf are the lists of a script, whole: with their spare room.
func listsOf(who []int, l []api.Ask) []reflect.Value {
	out := []reflect.Value{reflect.ValueOf(who), reflect.ValueOf(l)}
	for _, a := range l {
		out = append(out, reflect.ValueOf(a.Bytes))
	}
	return out
}

func overlap(x, y reflect.Value) bool {
	size := func(v reflect.Value) uintptr { return uintptr(v.Cap()) * v.Type().Elem().Size() }
	return size(x) > 0 && size(y) > 0 && x.Pointer() < y.Pointer()+size(y) && y.Pointer() < x.Pointer()+size(x)
}

// Alone changes nothing, and what it answers shares no memory with that, nor one list of it with another one; not even
// where asks of the script share their bytes.
func TestScriptsAreOnlyRead(t *testing.T) {
	for seed := range int64(30) {
		r := rand.New(rand.NewSource(seed))
		who, l := someScript(r, 3)
		who, l = roomy(who, 1), roomy(l, api.Ask{Kind: 1, Set: "spare", Bytes: []byte("spare")})
		shared := roomy([]byte("shared"), 'r')
		for k := range l {
			l[k].Bytes = roomy(l[k].Bytes, 'r')
			if r.Intn(3) == 0 {
				l[k].Bytes = shared[:r.Intn(7)]
			}
		}
		was := wholeScript(who, l)
		for _, i := range []int{-1, 0, 1, 2, 3} {
			asks, places := wantAlone(t, fmt.Sprint("seed ", seed), who, l, i)
			in, out := listsOf(who, l), listsOf(places, asks)
			for k, x := range out {
				for _, y := range slices.Concat(in, out[k+1:]) {
					if overlap(x, y) {
						t.Fatalf("seed %d: lists share memory: %v, %v", seed, x, y)
					}
				}
			}
			if wholeScript(who, l) != was {
				t.Fatalf("seed %d: what is handed in was changed", seed)
			}
		}
	}
}

// twisted is p with some numbers, names and lists of it turned into others.
func twisted(r *rand.Rand, p api.Pool) api.Pool {
	p = roomyPool(p)
	var numbers []*int
	var names []*string
	files := func(l []api.Entry) {
		for k := range l {
			names, numbers = append(names, &l[k].Name), append(numbers, &l[k].F.Root, &l[k].F.Size, &l[k].F.Size)
		}
	}
	for i := range p.S.Blocks[:24] {
		b := &p.S.Blocks[i]
		numbers = append(numbers, &b.Refs, &b.Level)
		for k := range b.Kids {
			numbers = append(numbers, &b.Kids[k])
		}
	}
	for i := range p.Tenants {
		own := &p.Tenants[i]
		numbers = append(numbers, &own.Key, &own.Quota, &own.Quota)
		for j := range own.Sets {
			x := &own.Sets[j]
			names = append(names, &x.Name)
			files(x.Files)
			for k := range x.Snaps {
				names = append(names, &x.Snaps[k].Name)
				files(x.Snaps[k].Files)
			}
		}
	}
	for range 1 + r.Intn(2) {
		switch r.Intn(8) {
		case 0:
			*names[r.Intn(len(names))] = []string{"", "a", "b", "c", "zz", "B"}[r.Intn(6)]
		case 1:
			p.Tenants = p.Tenants[:r.Intn(6)]
		case 2:
			p.S.Blocks = p.S.Blocks[:r.Intn(cap(p.S.Blocks))]
		default:
			values := []int{math.MinInt, -1, 0, 1, 2, 3, 4, 8, 13, 14, 22, 99, 256, 1000, math.MaxInt}
			n := numbers[r.Intn(len(numbers))]
			if *n += r.Intn(3) - 1; r.Intn(2) == 0 {
				*n = values[r.Intn(len(values))]
			}
		}
	}
	return p
}

// Pools that are wrong in all kinds of ways: no call panics, and what is wrong is what chapter 6 says of Uses.
func TestTwistedPools(t *testing.T) {
	p := town(t)
	told := map[api.Errno]int{}
	for seed := range int64(4000) {
		r := rand.New(rand.NewSource(seed))
		q, i := twisted(r, p), r.Intn(5)-1
		_, _, want := pool.Do(q, i, uses)
		told[want]++
		s, e := view.Print(q, i)
		wantError(t, fmt.Sprint("Print, seed ", seed), e, want, s)
		if want == api.OK && !strings.HasSuffix(s, fmt.Sprintf("uses %d of %d\n", usesOf(q, i), q.Tenants[i].Quota)) {
			t.Errorf("seed %d: %q", seed, s)
		}
		_, _, ahead := pool.Do(p, i, uses)
		for k, l := range [][2]api.Pool{{p, q}, {q, p}} {
			same, e := view.Alike(l[0], l[1], i)
			wantError(t, fmt.Sprint("Alike, seed ", seed), e, []api.Errno{firstOf(ahead, want), firstOf(want, ahead)}[k], same)
			if e == api.OK && same != (s == printed(t, p, i)) {
				t.Errorf("seed %d: %v of %q", seed, same, s)
			}
		}
	}
	for _, e := range []api.Errno{api.OK, api.ErrText, api.ErrMany, api.ErrRange, api.ErrForm, api.ErrWho, api.ErrTwice, api.ErrHeld, api.ErrFull} {
		if told[e] < 20 {
			t.Errorf("error %d was told %d times only", e, told[e])
		}
	}
}
