package pool_test

import (
	"bytes"
	"fmt"
	"math"
	"math/rand"
	"reflect"
	"slices"
	"strings"
	"testing"

	"rookery/api"
	"rookery/file"
	"rookery/pool"
	"rookery/seal"
	"rookery/set"
	"rookery/store"
)

func wantZero(t *testing.T, what string, l ...any) {
	t.Helper()
	for _, x := range l {
		if !reflect.ValueOf(x).IsZero() {
			t.Errorf("%s: %v beside an error", what, x)
		}
	}
}

func firstOf(l ...api.Errno) api.Errno {
	for _, e := range l {
		if e != api.OK {
			return e
		}
	}
	return api.OK
}

func when(wrong bool, e api.Errno) api.Errno {
	if wrong {
		return e
	}
	return api.OK
}

func wantError(t *testing.T, what string, got, want api.Errno, rest ...any) {
	t.Helper()
	if got != want {
		t.Errorf("%s: error %d, want %d", what, got, want)
	}
	if got != api.OK {
		wantZero(t, what, rest...)
	}
}

// Asks, in short.
func write(set, file, b string) api.Ask {
	return api.Ask{Kind: api.Write, Set: set, File: file, Bytes: []byte(b)}
}

func writeAt(set, file string, at int, b string) api.Ask {
	return api.Ask{Kind: api.Write, Set: set, File: file, At: at, Bytes: []byte(b)}
}

func read(set, file string) api.Ask {
	return api.Ask{Kind: api.Read, Set: set, File: file, N: api.MaxSize}
}

func named(kind int, set string) api.Ask  { return api.Ask{Kind: kind, Set: set} }
func to(kind int, set, to string) api.Ask { return api.Ask{Kind: kind, Set: set, To: to} }

func clone(set, snap, name string) api.Ask {
	return api.Ask{Kind: api.Clone, Set: set, To: snap, File: name}
}

var uses = api.Ask{Kind: api.Uses}

func rootsOf(t api.Tenant) []int {
	var l []int
	for _, x := range t.Sets {
		for _, f := range x.Files {
			l = append(l, f.F.Root)
		}
		for _, snap := range x.Snaps {
			for _, f := range snap.Files {
				l = append(l, f.F.Root)
			}
		}
	}
	return l
}

// usesOf counts by a walk of its own, so that it needs no layer.
func usesOf(s api.Store, t api.Tenant) int {
	seen := map[int]bool{}
	var walk func(l []int)
	walk = func(l []int) {
		for _, a := range l {
			if a != 0 && !seen[a] {
				seen[a] = true
				walk(s.Blocks[a-1].Kids)
			}
		}
	}
	walk(rootsOf(t))
	return len(seen)
}

// bySteps is what the document tells of an ask of a right pool, by the layers that it names.
func bySteps(p api.Pool, i int, a api.Ask) (api.Pool, api.Answer) {
	q := api.Pool{S: p.S, Tenants: slices.Clone(p.Tenants)}
	own := &q.Tenants[i]
	own.Sets = slices.Clone(own.Sets)
	at := slices.IndexFunc(own.Sets, func(x api.Set) bool { return x.Name == a.Set })
	add := func(x api.Set) api.Errno {
		there := slices.ContainsFunc(own.Sets, func(y api.Set) bool { return x.Name == y.Name })
		e := firstOf(when(!set.Name(x.Name), api.ErrText), when(there, api.ErrTwice), when(len(own.Sets) == api.MaxSets, api.ErrMany))
		own.Sets = append(own.Sets, x)
		slices.SortFunc(own.Sets, func(x, y api.Set) int { return strings.Compare(x.Name, y.Name) })
		return e
	}
	var answer api.Answer
	var e api.Errno
	switch {
	case a.Kind == api.Make:
		answer.E = add(api.Set{Name: a.Set})
	case a.Kind == api.Uses:
		answer.N = usesOf(p.S, *own)
	case at < 0:
		answer.E = api.ErrWho
	case a.Kind == api.Read || a.Kind == api.List:
		answer, e = set.Look(p.S, own.Key, own.Sets[at], a)
		answer.E = firstOf(e, answer.E)
	case a.Kind == api.Destroy:
		q.S, answer.E = set.Destroy(p.S, own.Key, own.Sets[at])
		own.Sets = slices.Delete(own.Sets, at, at+1)
	case a.Kind == api.Clone:
		next, x, e := set.Clone(p.S, own.Key, own.Sets[at], a.To, a.File)
		q.S = next
		if answer.E = e; e == api.OK {
			answer.E = add(x)
		}
	default:
		q.S, own.Sets[at], answer.E = set.Do(p.S, own.Key, own.Sets[at], a)
		if answer.E == api.OK && usesOf(q.S, *own) > own.Quota {
			answer.E = api.ErrFull
		}
	}
	if answer.E != api.OK {
		return p, api.Answer{E: answer.E}
	}
	return q, answer
}

// checked is what the document tells of Check, word by word, by the layers that it names.
func checked(p api.Pool) api.Errno {
	if e := firstOf(store.Check(p.S), when(len(p.Tenants) > api.MaxTenants, api.ErrMany)); e != api.OK {
		return e
	}
	quotas, owner, counts := 0, map[int]int{}, make([]int, len(p.S.Blocks))
	for i, t := range p.Tenants {
		e := firstOf(seal.Check(t.Key, 0), when(t.Quota < 0 || t.Quota > api.MaxBlocks, api.ErrRange), when(len(t.Sets) > api.MaxSets, api.ErrMany))
		for j := 0; j < len(t.Sets) && e == api.OK; j++ {
			e = firstOf(set.Check(p.S, t.Key, t.Sets[j]), when(j > 0 && t.Sets[j].Name <= t.Sets[max(j, 1)-1].Name, api.ErrTwice))
		}
		if e != api.OK {
			return e
		}
		quotas += t.Quota
		reached, e := store.Reach(p.S, rootsOf(t))
		if e = firstOf(e, when(quotas+api.Slack > len(p.S.Blocks) || len(reached) > t.Quota, api.ErrFull)); e != api.OK {
			return e
		}
		for _, a := range reached {
			if _, there := owner[a]; there {
				return api.ErrHeld
			}
			owner[a] = i
		}
		for _, root := range rootsOf(t) {
			if root != 0 {
				counts[root-1]++
			}
		}
	}
	outside, _ := store.Outside(p.S)
	return when(!slices.Equal(outside, counts), api.ErrHeld)
}

func alikeSets(x, y api.Set) bool {
	return x.Name == y.Name && slices.Equal(x.Files, y.Files) && slices.EqualFunc(x.Snaps, y.Snaps, func(a, b api.Snap) bool {
		return a.Name == b.Name && slices.Equal(a.Files, b.Files)
	})
}

// alike: are two pools alike, lists that are nil and such as are empty being so?
func alike(p, q api.Pool) bool {
	return store.Same(p.S, q.S) && slices.EqualFunc(p.Tenants, q.Tenants, func(a, b api.Tenant) bool {
		return a.Key == b.Key && a.Quota == b.Quota && slices.EqualFunc(a.Sets, b.Sets, alikeSets)
	})
}

func sameAnswer(x, y api.Answer) bool {
	return x.E == y.E && x.N == y.N && slices.Equal(x.Names, y.Names) && bytes.Equal(x.Bytes, y.Bytes)
}

// raised is a pool of tenants of those keys and quotas in which all asks have been done by steps; it has no more blocks
// than it needs.
func raised(t *testing.T, keys, quotas []int, who []int, l []api.Ask) api.Pool {
	t.Helper()
	n := api.Slack
	p := api.Pool{}
	for i := range keys {
		p.Tenants = append(p.Tenants, api.Tenant{Key: keys[i], Quota: quotas[i]})
		n += quotas[i]
	}
	p.S, _ = store.New(n)
	for k, a := range l {
		var answer api.Answer
		if p, answer = bySteps(p, who[k], a); answer.E != api.OK {
			t.Fatalf("%v: error %d", a, answer.E)
		}
	}
	return p
}

// town is a right pool. The first tenant has two sets, the second one, with the same key, as many as may be, which share
// all their blocks and come to just the quota; the third one has none.
func town(t *testing.T) api.Pool {
	t.Helper()
	l := []api.Ask{
		named(api.Make, "b"), write("b", "f", "one!"), writeAt("b", "g", 2, "two leaves"), to(api.Snapshot, "b", "s"),
		writeAt("b", "f", 1, "x"), to(api.Snapshot, "b", "t"), named(api.Make, "d"), write("d", "h", "one!"),
		named(api.Make, "a"), write("a", "f", "one!"), to(api.Snapshot, "a", "m"), clone("a", "m", "c"), named(api.Make, "e"),
	}
	who := []int{0, 0, 0, 0, 0, 0, 0, 0, 1, 1, 1, 1, 1}
	return raised(t, []int{7, 7, api.MaxKey}, []int{40, 4, 9}, who, l)
}

func TestTown(t *testing.T) {
	p := town(t)
	if e := pool.Check(p); e != api.OK {
		t.Fatalf("error %d", e)
	}
	for i, want := range []int{18, 4, 0} {
		if n := usesOf(p.S, p.Tenants[i]); n != want {
			t.Errorf("tenant %d has %d blocks, want %d", i, n, want)
		}
	}
}

// fault is one thing that is wrong with a pool, and the error that tells of it.
type fault struct {
	what string
	want api.Errno
	turn func(p *api.Pool)
}

func faultsOfStore() []fault {
	lay := func(at int, b api.Block) func(p *api.Pool) {
		return func(p *api.Pool) { p.S.Blocks[at] = b }
	}
	return []fault{
		{"too many blocks", api.ErrMany, func(p *api.Pool) { p.S.Blocks = append(p.S.Blocks, make([]api.Block, api.MaxBlocks)...) }},
		{"a free block that isn't zero", api.ErrForm, lay(120, api.Block{Level: 1})},
		{"negative Refs", api.ErrRange, lay(121, api.Block{Refs: -1, Bytes: make([]byte, 4)})},
		{"great Refs", api.ErrRange, lay(122, api.Block{Refs: api.MaxRefs + 1, Bytes: make([]byte, 4)})},
		{"a great Level", api.ErrRange, lay(123, api.Block{Refs: 1, Level: api.Top + 1})},
		{"a short leaf", api.ErrForm, lay(124, api.Block{Refs: 1, Bytes: []byte{1}})},
		{"no such kid", api.ErrWho, lay(125, api.Block{Refs: 1, Level: 1, Kids: []int{999, 0, 0, 0}})},
		{"no kid", api.ErrForm, lay(126, api.Block{Refs: 1, Level: 1, Kids: make([]int, 4)})},
		{"held too rarely", api.ErrHeld, lay(127, api.Block{Refs: 1, Level: 1, Kids: []int{1, 1, 1, 1}})},
	}
}

func manyFiles() []api.Entry {
	var l []api.Entry
	for i := range api.MaxFiles + 1 {
		l = append(l, api.Entry{Name: fmt.Sprint("zz", i)})
	}
	return l
}

// faultsOfSet are what may be wrong with set j of tenant i, in the order of chapter 5, and then of this one.
func faultsOfSet(i, j int) []fault {
	in := func(what string, want api.Errno, turn func(x *api.Set)) fault {
		return fault{fmt.Sprintf("tenant %d, set %d: %s", i, j, what), want, func(p *api.Pool) { turn(&p.Tenants[i].Sets[j]) }}
	}
	files := func(what string, want api.Errno, l ...api.Entry) fault {
		return in(what, want, func(x *api.Set) { x.Files = l })
	}
	snaps := func(what string, want api.Errno, l ...api.Snap) fault {
		return in(what, want, func(x *api.Set) { x.Snaps = l })
	}
	a := api.Entry{Name: "a"}
	of := func(root, size int) api.Entry { return api.Entry{Name: "a", F: api.File{Root: root, Size: size}} }
	l := []fault{
		in("no name", api.ErrText, func(x *api.Set) { x.Name = "" }),
		files("too many files", api.ErrMany, manyFiles()...),
		files("no name of a file", api.ErrText, api.Entry{Name: "A"}),
		files("the same name of files", api.ErrTwice, a, a),
		files("files out of order", api.ErrTwice, a, api.Entry{Name: "0"}),
		files("a great size", api.ErrRange, of(0, api.MaxSize+1)),
		files("no such root", api.ErrWho, of(999, 4)),
		files("a free root", api.ErrWho, of(80, 4)),
		files("a leaf as root", api.ErrForm, of(1, 4)),
		files("bytes behind the size", api.ErrForm, of(4, 1)),
		snaps("too many snaps", api.ErrMany, make([]api.Snap, api.MaxSnaps+1)...),
		snaps("no name of a snap", api.ErrText, api.Snap{}),
		snaps("too many files of a snap", api.ErrMany, api.Snap{Name: "a", Files: manyFiles()}),
		snaps("no such root in a snap", api.ErrWho, api.Snap{Name: "a", Files: []api.Entry{of(-1, 4)}}),
		snaps("the same name of snaps", api.ErrTwice, api.Snap{Name: "a"}, api.Snap{Name: "a"}),
	}
	if j > 0 {
		ahead := func(p *api.Pool) string { return p.Tenants[i].Sets[j-1].Name }
		l = append(l,
			fault{fmt.Sprintf("tenant %d, set %d: the same name", i, j), api.ErrTwice, func(p *api.Pool) { p.Tenants[i].Sets[j].Name = ahead(p) }},
			in("a name ahead", api.ErrTwice, func(x *api.Set) { x.Name = "0" }))
	}
	return l
}

// faultsOfTenant are what may be wrong with tenant i of the town, in the order of the document.
func faultsOfTenant(i, sets int) []fault {
	in := func(what string, want api.Errno, turn func(t *api.Tenant)) fault {
		return fault{fmt.Sprintf("tenant %d: %s", i, what), want, func(p *api.Pool) { turn(&p.Tenants[i]) }}
	}
	l := []fault{
		in("a negative key", api.ErrRange, func(t *api.Tenant) { t.Key = -1 }),
		in("a great key", api.ErrRange, func(t *api.Tenant) { t.Key = api.MaxKey + 1 }),
		in("a negative quota", api.ErrRange, func(t *api.Tenant) { t.Quota = -1 }),
		in("a great quota", api.ErrRange, func(t *api.Tenant) { t.Quota = api.MaxBlocks + 1 }),
		in("too many sets", api.ErrMany, func(t *api.Tenant) {
			t.Sets = append(slices.Clone(t.Sets), make([]api.Set, api.MaxSets+1)...)
		}),
	}
	for j := range sets {
		l = append(l, faultsOfSet(i, j)...)
	}
	l = append(l, fault{fmt.Sprintf("tenant %d: no room for the quota", i), api.ErrFull, func(p *api.Pool) {
		room := len(p.S.Blocks) - api.Slack
		for j := range i {
			room -= p.Tenants[j].Quota
		}
		p.Tenants[i].Quota = min(max(room+1, 0), api.MaxBlocks)
	}})
	return l
}

// faults are what may be wrong with the town, in the order in which Check tells it.
func faults() []fault {
	l := faultsOfStore()
	l = append(l, fault{"too many tenants", api.ErrMany, func(p *api.Pool) {
		p.Tenants = append(slices.Clone(p.Tenants), make([]api.Tenant, api.MaxTenants)...)
	}})
	root := func(p *api.Pool, i int) int { return p.Tenants[i].Sets[0].Files[0].F.Root }
	l = append(l, faultsOfTenant(0, 2)...)
	l = append(l, fault{"tenant 0: more blocks than the quota", api.ErrFull, func(p *api.Pool) { p.Tenants[0].Quota = 17 }})
	l = append(l, faultsOfTenant(1, 3)...)
	l = append(l,
		fault{"tenant 1: more blocks than the quota", api.ErrFull, func(p *api.Pool) { p.Tenants[1].Quota = 3 }},
		fault{"tenant 1: a root of tenant 0", api.ErrHeld, func(p *api.Pool) {
			p.Tenants[1].Sets = []api.Set{{Name: "a"}, {Name: "c", Files: []api.Entry{{Name: "f", F: api.File{Root: root(p, 0), Size: 4}}}}, {Name: "e"}}
		}})
	l = append(l, faultsOfTenant(2, 0)...)
	take := func(i int) func(p *api.Pool) {
		return func(p *api.Pool) {
			p.Tenants[2].Sets = []api.Set{{Name: "a", Files: []api.Entry{{Name: "f", F: api.File{Root: root(p, i), Size: api.MaxSize}}}}}
		}
	}
	return append(l,
		fault{"tenant 2: more blocks than the quota", api.ErrFull, func(p *api.Pool) { take(0)(p); p.Tenants[2].Quota = 3 }},
		fault{"tenant 2: a root of tenant 0", api.ErrHeld, take(0)},
		fault{"tenant 2: a root of tenant 1", api.ErrHeld, take(1)},
		fault{"held once more", api.ErrHeld, func(p *api.Pool) { p.S.Blocks[root(p, 0)-1].Refs++ }},
		fault{"held by nobody", api.ErrHeld, func(p *api.Pool) { p.S.Blocks[130] = api.Block{Refs: 1, Bytes: make([]byte, 4)} }})
}

// Each fault of a pool alone, and each with each later one beside it, in all calls.
func TestFaultsInTheirOrder(t *testing.T) {
	right, l := town(t), faults()
	for i, first := range l {
		for j := i; j < len(l); j++ {
			p := roomyPool(right)
			// The later one goes first, so that what the first one turns stays so.
			l[j].turn(&p)
			first.turn(&p)
			what := first.what + "; " + l[j].what
			wantError(t, "Check: "+what, pool.Check(p), first.want)
			for _, i := range []int{-1, 0} {
				for _, a := range []api.Ask{uses, named(api.Make, ""), write("b", "f", "x")} {
					q, answer, e := pool.Do(p, i, a)
					wantError(t, "Do: "+what, e, first.want, q, answer)
				}
			}
			for _, n := range []int{0, api.MaxScript + 1} {
				q, answers, e := pool.Run(p, make([]int, n/2), make([]api.Ask, n))
				wantError(t, "Run: "+what, e, first.want, q, answers)
			}
		}
	}
}

// Pools that are right at the edges, and one step behind them.
func TestCheckAtTheEdges(t *testing.T) {
	of := func(n int, tenants ...api.Tenant) api.Pool {
		return api.Pool{S: api.Store{Blocks: make([]api.Block, n)}, Tenants: tenants}
	}
	quotas := func(l ...int) []api.Tenant {
		var out []api.Tenant
		for _, n := range l {
			out = append(out, api.Tenant{Quota: n})
		}
		return out
	}
	sets := func(names ...string) api.Tenant {
		var out api.Tenant
		for _, name := range names {
			out.Sets = append(out.Sets, api.Set{Name: name})
		}
		return out
	}
	for _, c := range []struct {
		what string
		p    api.Pool
		want api.Errno
	}{
		{"nothing", api.Pool{}, api.OK},
		{"no tenants, no slack", of(api.Slack - 1), api.OK},
		{"no tenants, all blocks", of(api.MaxBlocks), api.OK},
		{"no tenants, too many blocks", of(api.MaxBlocks + 1), api.ErrMany},
		{"empty lists", api.Pool{S: api.Store{Blocks: []api.Block{}}, Tenants: []api.Tenant{}}, api.OK},
		{"a quota of 0", of(api.Slack, quotas(0)...), api.OK},
		{"a quota of 0, no slack", of(api.Slack-1, quotas(0)...), api.ErrFull},
		{"a quota of 0, no blocks", of(0, quotas(0)...), api.ErrFull},
		{"as many tenants", of(api.Slack, quotas(0, 0, 0)...), api.OK},
		{"one tenant more", of(api.Slack, quotas(0, 0, 0, 0)...), api.ErrMany},
		{"one quota for all", of(api.MaxBlocks, quotas(api.MaxBlocks-api.Slack)...), api.OK},
		{"one quota, one more", of(api.MaxBlocks, quotas(api.MaxBlocks-api.Slack+1)...), api.ErrFull},
		{"the greatest quota", of(api.MaxBlocks, quotas(api.MaxBlocks)...), api.ErrFull},
		{"a greater quota", of(api.MaxBlocks, quotas(api.MaxBlocks+1)...), api.ErrRange},
		{"the greatest int", of(api.MaxBlocks, quotas(math.MaxInt, math.MaxInt)...), api.ErrRange},
		{"the least int", of(api.MaxBlocks, quotas(math.MinInt)...), api.ErrRange},
		{"quotas for all", of(100, quotas(4, 0, 6)...), api.OK},
		{"the last one has one more", of(100, quotas(4, 0, 7)...), api.ErrFull},
		{"the first one has all", of(100, quotas(10, 0, 0)...), api.OK},
		{"the first one has more, the next is wrong", of(100, quotas(11, -1)...), api.ErrFull},
		{"the next one has more, the last is wrong", of(100, quotas(5, 6, -1)...), api.ErrFull},
		{"the next one has all, the last is wrong", of(100, quotas(5, 5, -1)...), api.ErrRange},
		{"no key at first, no room for others", of(0, api.Tenant{Key: -1}, api.Tenant{}), api.ErrRange},
		{"the keys at the edges", of(90, api.Tenant{Key: 0}, api.Tenant{Key: api.MaxKey}), api.OK},
		{"the same key", of(90, api.Tenant{Key: 5}, api.Tenant{Key: 5}), api.OK},
		{"as many sets", of(90, sets("0", "a", "aa")), api.OK},
		{"one set more", of(90, sets("0", "a", "aa", "b")), api.ErrMany},
		{"many sets, none a name", of(90, sets("", "", "", "")), api.ErrMany},
		{"sets of many", of(90, sets("0", "a", "b"), sets("0", "a", "b"), sets("0", "a", "b")), api.OK},
		{"the same name", of(90, sets("a", "a")), api.ErrTwice},
		{"the same name, later", of(90, sets("a", "b", "b")), api.ErrTwice},
		{"a name ahead", of(90, sets("b", "a")), api.ErrTwice},
		{"a shorter name ahead", of(90, sets("ab", "a")), api.ErrTwice},
		{"a letter ahead of a digit", of(90, sets("a", "0")), api.ErrTwice},
		{"the last one ahead of the first", of(90, sets("b", "c", "a")), api.ErrTwice},
		{"twice the same, then no name", of(90, sets("a", "a", "A")), api.ErrTwice},
		{"no name, then twice the same", of(90, sets("A", "a", "a")), api.ErrText},
		{"out of order, without room", of(0, sets("b", "a")), api.ErrTwice},
		{"another one's names out of order, no room for the first", of(0, sets("a"), sets("b", "a")), api.ErrFull},
	} {
		wantError(t, c.what, pool.Check(c.p), c.want)
		if e := checked(c.p); e != c.want {
			t.Errorf("%s: by steps error %d", c.what, e)
		}
	}
}

// What a tenant reaches is just the quota, or one more; what sets share counts once.
func TestCheckOfQuotas(t *testing.T) {
	for i, n := range []int{18, 4, 0} {
		p := town(t)
		p.Tenants[i].Quota = n
		wantError(t, fmt.Sprint(i, ": just the quota"), pool.Check(p), api.OK)
		p.Tenants[i].Quota = n - 1
		wantError(t, fmt.Sprint(i, ": one more"), pool.Check(p), when(n == 0, api.ErrRange)+when(n > 0, api.ErrFull))
	}
}

// A block of two sets of one tenant is right, one of two tenants isn't, though it is held as often as it is a root.
func TestCheckOfWhatIsShared(t *testing.T) {
	p := town(t)
	theirs := p.Tenants[0].Sets[0].Files[0].F
	p.S, _ = store.Keep(p.S, theirs.Root)
	own, other := town(t), town(t)
	own.S, other.S = p.S, p.S
	own.Tenants[0].Sets[1].Files = append(own.Tenants[0].Sets[1].Files, api.Entry{Name: "z", F: theirs})
	wantError(t, "two sets of one tenant", pool.Check(own), api.OK)
	for i, want := range []api.Errno{api.OK, api.ErrFull, api.ErrHeld} {
		q := other
		q.Tenants = slices.Clone(other.Tenants)
		q.Tenants[i].Sets = slices.Clone(q.Tenants[i].Sets)
		q.Tenants[i].Key = 7
		if i == 2 {
			q.Tenants[i].Sets = []api.Set{{Name: "z"}}
		}
		last := &q.Tenants[i].Sets[len(q.Tenants[i].Sets)-1]
		last.Snaps = []api.Snap{{Name: "z", Files: []api.Entry{{Name: "z", F: theirs}}}}
		wantError(t, fmt.Sprint("a root, in a snap of tenant ", i), pool.Check(q), want)
	}

	// Another root above the same leaves.
	p = town(t)
	s, more, e := file.Write(p.S, 7, theirs, 40, []byte("x"))
	if e != api.OK {
		t.Fatal(e)
	}
	own, other = town(t), town(t)
	own.S, other.S = s, s
	own.Tenants[0].Sets[1].Files = append(own.Tenants[0].Sets[1].Files, api.Entry{Name: "z", F: more})
	wantError(t, "a leaf of two sets of one tenant", pool.Check(own), api.OK)
	other.Tenants[2] = api.Tenant{Key: 7, Quota: 9, Sets: []api.Set{{Name: "z", Files: []api.Entry{{Name: "z", F: more}}}}}
	wantError(t, "a leaf of two tenants", pool.Check(other), api.ErrHeld)
	other.Tenants[2].Quota = 6
	wantError(t, "a leaf of two tenants, just the quota", pool.Check(other), api.ErrHeld)
	other.Tenants[2].Quota = 5
	wantError(t, "a leaf of two tenants, one more than the quota", pool.Check(other), api.ErrFull)
}

// Each block is held outside just as often as it is a root, or else it is ErrHeld.
func TestCheckOfWhatIsHeld(t *testing.T) {
	p := town(t)
	roots := map[int]int{}
	for _, own := range p.Tenants {
		for _, root := range rootsOf(own) {
			roots[root]++
		}
	}
	for a := 1; a <= len(p.S.Blocks); a++ {
		if p.S.Blocks[a-1].Refs == 0 {
			continue
		}
		more, e := store.Keep(p.S, a)
		if e != api.OK {
			t.Fatal(e)
		}
		wantError(t, fmt.Sprint(a, " once more"), pool.Check(api.Pool{S: more, Tenants: p.Tenants}), api.ErrHeld)
		if roots[a] < 2 {
			continue
		}
		less, e := store.Drop(p.S, a)
		if e != api.OK {
			t.Fatal(e)
		}
		wantError(t, fmt.Sprint(a, " once less"), pool.Check(api.Pool{S: less, Tenants: p.Tenants}), api.ErrHeld)
	}
	if roots[p.Tenants[1].Sets[0].Files[0].F.Root] != 3 {
		t.Errorf("another town: %v", roots)
	}
	// One more of one root, one less of another one: as many of all is not enough.
	one, two := p.Tenants[0].Sets[0].Files[0].F.Root, p.Tenants[1].Sets[0].Files[0].F.Root
	p.S, _ = store.Keep(p.S, one)
	p.S, _ = store.Drop(p.S, two)
	wantError(t, "one for another", pool.Check(p), api.ErrHeld)
}

// The first address may be a root, too, and the last one a leaf.
func TestRootAtTheFirstAddress(t *testing.T) {
	p := fresh(t, api.Slack+4, 4)
	b, _ := seal.Seal(0, 0, []byte("leaf"))
	last := len(p.S.Blocks)
	p.S.Blocks[0] = api.Block{Refs: 1, Level: 3, Kids: []int{2, 0, 0, 0}}
	p.S.Blocks[1] = api.Block{Refs: 1, Level: 2, Kids: []int{3, 0, 0, 0}}
	p.S.Blocks[2] = api.Block{Refs: 1, Level: 1, Kids: []int{last, 0, 0, 0}}
	p.S.Blocks[last-1] = api.Block{Refs: 1, Bytes: b}
	wantError(t, "nobody's", pool.Check(p), api.ErrHeld)
	p.Tenants[0].Sets = []api.Set{{Name: "a", Files: []api.Entry{{Name: "f", F: api.File{Root: 1, Size: 4}}}}}
	wantError(t, "somebody's", pool.Check(p), api.OK)
	wantRead(t, p, 0, "a", "f", "leaf")
	q, _ := step(t, p, 0, write("a", "f", "kind"))
	wantRead(t, q, 0, "a", "f", "kind")
	wantError(t, "behind a Write", pool.Check(q), api.OK)
}

func TestNew(t *testing.T) {
	lists := [][]int{nil, {}, {0}, {1}, {7, 0}, {0, 0, 0}, {5, 5, 5}, {0, 0, 0, 0}, {-1}, {11}, {6, 5}, {10, -1}, {11, -1},
		{310}, {311}, {300, 10}, {api.MaxBlocks + 1}, {api.MaxKey}, {api.MaxKey, 1, api.MaxKey + 1}, {math.MaxInt, math.MinInt}, make([]int, 5000)}
	for _, n := range []int{math.MinInt, -1, 0, 89, 90, 91, 99, 100, 101, 399, 400, 401, math.MaxInt} {
		for _, keys := range lists {
			for _, quotas := range lists {
				what := fmt.Sprint("New of ", n, keys[:min(5, len(keys))], quotas[:min(5, len(quotas))])
				k, q := slices.Clone(keys), slices.Clone(quotas)
				p, e := pool.New(n, keys, quotas)
				s, want := store.New(n)
				want = firstOf(want, when(len(keys) != len(quotas), api.ErrForm))
				made := api.Pool{S: s}
				for i := 0; want == api.OK && i < len(keys); i++ {
					made.Tenants = append(made.Tenants, api.Tenant{Key: keys[i], Quota: quotas[i]})
				}
				want = firstOf(want, checked(made))
				wantError(t, what, e, want, p)
				if e == api.OK && !alike(p, made) {
					t.Errorf("%s: %v, want %v", what, p, made)
				}
				if !slices.Equal(k, keys) || !slices.Equal(q, quotas) {
					t.Errorf("%s: what was handed in has changed", what)
				}
			}
		}
	}
}

func wantDone(t *testing.T, p api.Pool, i int, a api.Ask) api.Pool {
	t.Helper()
	q, answer, e := pool.Do(p, i, a)
	want, told := bySteps(p, i, a)
	if e != api.OK || !sameAnswer(answer, told) {
		t.Errorf("%v of tenant %d: %v, error %d, want %v", a, i, answer, e, told)
	}
	if answer.E != api.OK {
		wantZero(t, fmt.Sprint(a), answer.N, answer.Names, answer.Bytes)
		want = p
	}
	if !alike(q, want) {
		t.Errorf("%v of tenant %d: %v, want %v", a, i, q, want)
	}
	if e := pool.Check(q); e != api.OK {
		t.Errorf("%v of tenant %d: error %d of what is left", a, i, e)
	}
	return q
}

// All that may be asked, right and wrong, each with all the other things that may be wrong.
func TestAsksInAllWays(t *testing.T) {
	p := town(t)
	names := []string{"", "a", "b", "d", "e", "zz", "B"}
	kinds := []int{math.MinInt, -1, 0, 1, 2, 3, 4, 5, 6, 7, 8, 9, 10, 11, 12, 13, 14, math.MaxInt}
	for i := range p.Tenants {
		for _, kind := range kinds {
			for _, in := range names {
				for _, name := range []string{"", "a", "b", "f", "g", "B"} {
					for _, to := range []string{"", "g", "m", "s", "z", "Z"} {
						wantDone(t, p, i, api.Ask{Kind: kind, Set: in, File: name, To: to, At: 3, N: 9, Bytes: []byte("bytes")})
					}
				}
			}
			for _, n := range []int{math.MinInt, -1, 0, 3, api.MaxSize, api.MaxSize + 1, math.MaxInt} {
				for _, many := range []int{0, 1, 253, api.MaxSize, api.MaxSize + 1} {
					for _, in := range []string{"b", "a", "zz"} {
						wantDone(t, p, i, api.Ask{Kind: kind, Set: in, File: "f", To: "s", At: n, N: n, Bytes: bytes.Repeat([]byte("q"), many)})
					}
				}
			}
		}
	}
	for _, i := range []int{math.MinInt, -1, 3, 4, math.MaxInt} {
		for _, kind := range kinds {
			q, answer, e := pool.Do(p, i, api.Ask{Kind: kind, Set: "b", File: "f"})
			wantError(t, fmt.Sprint("of tenant ", i), e, api.ErrWho, q, answer)
		}
	}
	q, answer, e := pool.Do(api.Pool{}, 0, uses)
	wantError(t, "where nobody is", e, api.ErrWho, q, answer)
}

// step does what a asks of a pool, and stops the test if that is refused.
func step(t *testing.T, p api.Pool, i int, a api.Ask) (api.Pool, api.Answer) {
	t.Helper()
	q, answer, e := pool.Do(p, i, a)
	if e != api.OK || answer.E != api.OK {
		t.Fatalf("%v: %v, error %d", a, answer, e)
	}
	return q, answer
}

// refused: the tenant is told E alone, and the pool is as ahead.
func refused(t *testing.T, p api.Pool, i int, a api.Ask, want api.Errno) {
	t.Helper()
	q, answer, e := pool.Do(p, i, a)
	if e != api.OK || !reflect.DeepEqual(answer, api.Answer{E: want}) {
		t.Errorf("%v: %v, error %d, want %d in E", a, answer, e, want)
	}
	if !alike(p, q) {
		t.Errorf("%v: %v, was %v", a, q, p)
	}
}

func fresh(t *testing.T, n int, quotas ...int) api.Pool {
	t.Helper()
	keys := make([]int, len(quotas))
	for i := range keys {
		keys[i] = 3 * i
	}
	p, e := pool.New(n, keys, quotas)
	if e != api.OK {
		t.Fatalf("New of %d, %v: error %d", n, quotas, e)
	}
	return p
}

func setNames(t api.Tenant) string {
	var l []string
	for _, x := range t.Sets {
		l = append(l, x.Name)
	}
	return strings.Join(l, " ")
}

func wantSets(t *testing.T, p api.Pool, want ...string) {
	t.Helper()
	for i, own := range p.Tenants {
		if got := setNames(own); got != want[i] {
			t.Errorf("tenant %d has %q, want %q", i, got, want[i])
		}
	}
}

func TestMake(t *testing.T) {
	for _, c := range []struct {
		names []string
		want  string
	}{
		{[]string{"m"}, "m"}, {[]string{"m", "z"}, "m z"}, {[]string{"m", "a"}, "a m"},
		{[]string{"a", "b", "c"}, "a b c"}, {[]string{"c", "b", "a"}, "a b c"}, {[]string{"a", "c", "b"}, "a b c"},
		{[]string{"a", "aa", "9"}, "9 a aa"}, {[]string{"ab", "a", "abcdefgh"}, "a ab abcdefgh"},
	} {
		p := fresh(t, 90, 0, 0)
		for n, name := range c.names {
			p, _ = step(t, p, 1, named(api.Make, name))
			if at := slices.IndexFunc(p.Tenants[1].Sets, func(x api.Set) bool { return x.Name == name }); at < 0 ||
				len(p.Tenants[1].Sets) != n+1 || len(p.Tenants[1].Sets[at].Files)+len(p.Tenants[1].Sets[at].Snaps) != 0 {
				t.Fatalf("%v: %v", c.names, p.Tenants[1])
			}
		}
		wantSets(t, p, "", c.want)
		if len(c.names) == api.MaxSets {
			refused(t, p, 1, named(api.Make, "x"), api.ErrMany)
		}
		for _, name := range c.names {
			refused(t, p, 1, named(api.Make, name), api.ErrTwice)
		}
		for _, name := range []string{"", "A", "a b", "abcdefghi", "ä"} {
			refused(t, p, 1, named(api.Make, name), api.ErrText)
		}
		// Another one's sets are nobody else's.
		for _, name := range c.names {
			p, _ = step(t, p, 0, named(api.Make, name))
		}
		wantSets(t, p, c.want, c.want)
	}
}

func TestUses(t *testing.T) {
	p := town(t)
	for i, want := range []int{18, 4, 0} {
		q, answer := step(t, p, i, api.Ask{Kind: api.Uses, Set: "no set!"})
		if !reflect.DeepEqual(answer, api.Answer{N: want}) || !alike(p, q) {
			t.Errorf("tenant %d: %v, want %d", i, answer, want)
		}
	}
	p, _ = step(t, p, 2, named(api.Make, "z"))
	if _, answer := step(t, p, 2, uses); answer.N != 0 {
		t.Errorf("of an empty set: %d", answer.N)
	}
}

// The examples of the document, and others, that come to just the quota, or to one more.
func TestQuota(t *testing.T) {
	full := strings.Repeat("x", api.MaxSize)
	one := []api.Ask{named(api.Make, "a"), write("a", "f", "hey")}
	snapped := append(slices.Clone(one), to(api.Snapshot, "a", "s"))
	two := append(slices.Clone(snapped), write("a", "f", "you"))
	cloned := append(slices.Clone(snapped), clone("a", "s", "b"))
	for _, c := range []struct {
		what  string
		ahead []api.Ask
		a     api.Ask
		needs int
		then  int // what is used behind it
	}{
		{"one leaf", one[:1], one[1], 4, 4},
		{"two leaves", one, writeAt("a", "f", 9, "x"), 5, 5},
		{"two leaves at once", one[:1], write("a", "f", "12345"), 5, 5},
		{"two files", one, write("a", "g", "hey"), 8, 8},
		{"the same leaf", one, write("a", "f", "you"), 4, 4},
		{"far apart", one, writeAt("a", "f", 255, "x"), 7, 7},
		{"a whole file", one[:1], write("a", "f", full), 85, 85},
		{"a file of noughts", one[:1], write("a", "f", string(make([]byte, 256))), 0, 0},
		{"no bytes", one[:1], write("a", "f", ""), 0, 0},
		{"noughts over it", one, write("a", "f", string(make([]byte, 3))), 4, 0},
		{"behind a snap", snapped, writeAt("a", "f", 1, "x"), 8, 8},
		{"the same behind a snap", snapped, write("a", "f", "he"), 4, 4},
		{"cut", one, api.Ask{Kind: api.Cut, Set: "a", File: "f", N: 1}, 4, 4},
		{"cut to more", one, api.Ask{Kind: api.Cut, Set: "a", File: "f", N: 200}, 4, 4},
		{"cut behind a snap", snapped, api.Ask{Kind: api.Cut, Set: "a", File: "f", N: 1}, 8, 8},
		{"cut to nothing behind a snap", snapped, api.Ask{Kind: api.Cut, Set: "a", File: "f"}, 4, 4},
		{"snapshot", one, snapped[2], 4, 4},
		{"rename", one, api.Ask{Kind: api.Rename, Set: "a", File: "f", To: "g"}, 4, 4},
		{"remove", one, api.Ask{Kind: api.Remove, Set: "a", File: "f"}, 4, 0},
		{"back", two, to(api.Back, "a", "s"), 8, 4},
		{"back to the same", snapped, to(api.Back, "a", "s"), 4, 4},
		{"forget", two, to(api.Forget, "a", "s"), 8, 4},
		{"clone", snapped, clone("a", "s", "b"), 4, 4},
		{"clone of what was", two, clone("a", "s", "b"), 8, 8},
		{"write to a clone", cloned, write("b", "f", "x"), 8, 8},
		{"a file beside those of a clone", cloned, write("b", "g", "x"), 8, 8},
		{"make", two, named(api.Make, "b"), 8, 8},
		{"destroy", two, named(api.Destroy, "a"), 8, 0},
		{"destroy of what a clone has", cloned, named(api.Destroy, "a"), 4, 4},
	} {
		ahead := raised(t, []int{3, 0}, []int{86, 4}, make([]int, len(c.ahead)), c.ahead)
		least := usesOf(ahead.S, ahead.Tenants[0])
		// Another one who has all that they may makes no difference.
		for _, asks := range [][]api.Ask{nil, {named(api.Make, "a"), write("a", "f", "full")}} {
			for _, a := range asks {
				ahead, _ = step(t, ahead, 1, a)
			}
			for quota := least; quota <= c.needs+1; quota++ {
				p := api.Pool{S: ahead.S, Tenants: slices.Clone(ahead.Tenants)}
				p.Tenants[0].Quota = quota
				p.S.Blocks = p.S.Blocks[:api.Slack+quota+4]
				if quota < c.needs {
					refused(t, p, 0, c.a, api.ErrFull)
					continue
				}
				q, answer, e := pool.Do(p, 0, c.a)
				if e != api.OK || !reflect.DeepEqual(answer, api.Answer{}) {
					t.Errorf("%s, quota %d: %v, error %d", c.what, quota, answer, e)
					continue
				}
				if _, answer := step(t, q, 0, uses); answer.N != c.then {
					t.Errorf("%s: uses %d, want %d", c.what, answer.N, c.then)
				}
			}
		}
	}
}

// What chapter 5 says is told ahead of the quota.
func TestQuotaIsToldLast(t *testing.T) {
	p := fresh(t, 91, 1)
	p, _ = step(t, p, 0, named(api.Make, "a"))
	refused(t, p, 0, write("a", "f", "x"), api.ErrFull)
	refused(t, p, 0, write("a", "F", "x"), api.ErrText)
	refused(t, p, 0, writeAt("a", "f", -1, "x"), api.ErrRange)
	for i := range api.MaxFiles {
		p, _ = step(t, p, 0, write("a", fmt.Sprint("f", i), ""))
	}
	refused(t, p, 0, write("a", "f0", "x"), api.ErrFull)
	refused(t, p, 0, write("a", "g", "x"), api.ErrMany)
	refused(t, p, 0, write("b", "g", "x"), api.ErrWho)
}

func TestClone(t *testing.T) {
	p := town(t)
	for _, c := range []struct {
		name, sets string
	}{{"a", "a b d"}, {"c", "b c d"}, {"z", "b d z"}, {"s", "b d s"}} {
		q, answer := step(t, p, 0, clone("b", "s", c.name))
		if !reflect.DeepEqual(answer, api.Answer{}) {
			t.Errorf("%s: %v", c.name, answer)
		}
		wantSets(t, q, c.sets, "a c e", "")
		// Its files are those of the snap, not those of now; and it has no snaps.
		wantRead(t, q, 0, c.name, "f", "one!")
		wantRead(t, q, 0, "b", "f", "oxe!")
		refused(t, q, 0, to(api.Back, c.name, "s"), api.ErrWho)
		if _, answer := step(t, q, 0, uses); answer.N != 18 {
			t.Errorf("%s: uses %d", c.name, answer.N)
		}
		q, _ = step(t, q, 0, named(api.Destroy, c.name))
		if !alike(p, q) {
			t.Errorf("%s: Destroy of Clone: %v, was %v", c.name, q, p)
		}
	}
	// Chapter 5's errors, then those of Make.
	for _, c := range []struct {
		i               int
		set, snap, name string
		want            api.Errno
	}{
		{0, "z", "s", "z", api.ErrWho}, {0, "", "", "", api.ErrWho}, {0, "a", "m", "z", api.ErrWho}, {1, "b", "s", "z", api.ErrWho},
		{0, "b", "s", "", api.ErrText}, {0, "b", "none", "Z", api.ErrText}, {1, "a", "none", "", api.ErrText},
		{0, "b", "none", "z", api.ErrWho}, {0, "b", "none", "b", api.ErrWho}, {1, "a", "none", "z", api.ErrWho},
		{0, "b", "s", "b", api.ErrTwice}, {0, "b", "s", "d", api.ErrTwice}, {1, "a", "m", "e", api.ErrTwice},
		{1, "a", "m", "z", api.ErrMany},
	} {
		refused(t, p, c.i, clone(c.set, c.snap, c.name), c.want)
	}
}

func TestDestroy(t *testing.T) {
	p := town(t)
	for _, c := range []struct{ name, sets string }{{"a", "c e"}, {"c", "a e"}, {"e", "a c"}} {
		q, _ := step(t, p, 1, named(api.Destroy, c.name))
		wantSets(t, q, "b d", c.sets, "")
		if _, answer := step(t, q, 1, uses); answer.N != 4 {
			t.Errorf("%s: uses %d", c.name, answer.N)
		}
	}
	p, _ = step(t, p, 1, named(api.Destroy, "a"))
	p, _ = step(t, p, 1, named(api.Destroy, "c"))
	if _, answer := step(t, p, 1, uses); answer.N != 0 {
		t.Errorf("uses %d", answer.N)
	}
	p, _ = step(t, p, 1, named(api.Destroy, "e"))
	wantSets(t, p, "b d", "", "")
	refused(t, p, 1, named(api.Destroy, "e"), api.ErrWho)
	refused(t, p, 1, named(api.Destroy, "b"), api.ErrWho)
	refused(t, p, 1, named(api.Destroy, ""), api.ErrWho)
	p, _ = step(t, p, 0, named(api.Destroy, "d"))
	p, _ = step(t, p, 0, named(api.Destroy, "b"))
	if n, _ := store.Used(p.S); n != 0 {
		t.Errorf("%d blocks are left", n)
	}
}

func wantRead(t *testing.T, p api.Pool, i int, in, name, want string) {
	t.Helper()
	q, answer := step(t, p, i, read(in, name))
	if answer.N != len(want) || string(answer.Bytes) != want || len(answer.Names) != 0 || !alike(p, q) {
		t.Errorf("%s of %s: %v, want %q", name, in, answer, want)
	}
}

func TestReadAndList(t *testing.T) {
	p := town(t)
	wantRead(t, p, 0, "b", "f", "oxe!")
	wantRead(t, p, 0, "b", "g", "\x00\x00two leaves")
	wantRead(t, p, 0, "d", "h", "one!")
	wantRead(t, p, 1, "c", "f", "one!")
	for _, c := range []struct {
		i     int
		name  string
		names []string
	}{{0, "b", []string{"f", "g"}}, {0, "d", []string{"h"}}, {1, "c", []string{"f"}}, {1, "e", nil}} {
		q, answer := step(t, p, c.i, named(api.List, c.name))
		if answer.N != len(c.names) || !slices.Equal(answer.Names, c.names) || len(answer.Bytes) != 0 || !alike(p, q) {
			t.Errorf("%s: %v, want %v", c.name, answer, c.names)
		}
	}
	refused(t, p, 0, read("a", "f"), api.ErrWho)
	refused(t, p, 0, read("b", "h"), api.ErrWho)
	refused(t, p, 2, named(api.List, "b"), api.ErrWho)
	refused(t, p, 0, api.Ask{Kind: api.Read, Set: "b", File: "f", At: -1}, api.ErrRange)
	refused(t, p, 0, api.Ask{Kind: api.Read, Set: "b", File: "f", N: api.MaxSize + 1}, api.ErrRange)
}

// doneOneByOne is what Run must be: Do of one behind the other, what is refused leaving the pool as it was.
func doneOneByOne(p api.Pool, who []int, l []api.Ask) (api.Pool, []api.Answer) {
	answers := []api.Answer{}
	for k, a := range l {
		q, answer, e := pool.Do(p, who[k], a)
		if e != api.OK {
			answers = append(answers, api.Answer{E: e})
			continue
		}
		p = q
		answers = append(answers, answer)
	}
	return p, answers
}

func wantRun(t *testing.T, what string, p api.Pool, who []int, l []api.Ask) (api.Pool, []api.Answer) {
	t.Helper()
	q, answers, e := pool.Run(p, who, l)
	want, told := doneOneByOne(p, who, l)
	if e != api.OK || !slices.EqualFunc(answers, told, sameAnswer) || !alike(q, want) {
		t.Fatalf("%s: %v, error %d, want %v; %v, want %v", what, answers, e, told, q, want)
	}
	for _, answer := range answers {
		if answer.E != api.OK && !reflect.DeepEqual(answer, api.Answer{E: answer.E}) {
			t.Errorf("%s: %v", what, answer)
		}
	}
	if e := pool.Check(q); e != api.OK {
		t.Fatalf("%s: error %d of what is left", what, e)
	}
	return q, answers
}

func TestRun(t *testing.T) {
	p := town(t)
	if q, answers := wantRun(t, "of nothing", p, nil, nil); !alike(p, q) || len(answers) != 0 {
		t.Errorf("of nothing: %v, %v", q, answers)
	}
	wantRun(t, "of empty lists", p, []int{}, []api.Ask{})
	wantRun(t, "of nobody", api.Pool{}, []int{0}, []api.Ask{uses})

	for _, c := range []struct {
		who, asks int
		want      api.Errno
	}{
		{api.MaxScript, api.MaxScript, api.OK},
		{api.MaxScript + 1, api.MaxScript + 1, api.ErrMany},
		{0, api.MaxScript + 1, api.ErrMany},
		{api.MaxScript, api.MaxScript + 1, api.ErrMany},
		{api.MaxScript + 1, api.MaxScript, api.ErrForm},
		{1000, 1, api.ErrForm}, {1, 0, api.ErrForm}, {0, 1, api.ErrForm}, {1, 2, api.ErrForm}, {3, 2, api.ErrForm},
	} {
		asks := make([]api.Ask, c.asks)
		for k := range asks {
			asks[k] = writeAt("b", "f", k, "y")
		}
		q, answers, e := pool.Run(p, make([]int, c.who), asks)
		wantError(t, fmt.Sprint(c.who, c.asks), e, c.want, q, answers)
		if e == api.OK {
			wantRun(t, "of many", p, make([]int, c.who), asks)
			wantRead(t, q, 0, "b", "f", strings.Repeat("y", api.MaxScript))
		}
	}
}

// What is refused in the middle changes nothing, and the next ones go on; nor does one who isn't there.
func TestRunGoesOn(t *testing.T) {
	l := []api.Ask{
		named(api.Make, "z"), write("z", "f", "one"), write("z", "f", strings.Repeat("much", 9)), write("z", "g", "x"),
		named(api.Make, "y"), named(api.Make, "z"), to(api.Snapshot, "z", "s"), write("z", "f", "two"), {Kind: 99, Set: "z"},
		clone("z", "s", "y"), read("z", "f"), read("y", "f"), read("y", "g"), uses,
	}
	who := []int{2, 2, 2, 2, -1, 2, 2, 2, 2, 2, 2, 2, 2, 2}
	_, answers := wantRun(t, "in the town", town(t), who, l)
	for k, want := range []api.Answer{
		{}, {}, {E: api.ErrFull}, {}, {E: api.ErrWho}, {E: api.ErrTwice}, {}, {E: api.ErrFull}, {E: api.ErrForm},
		{}, {N: 3, Bytes: []byte("one")}, {N: 3, Bytes: []byte("one")}, {N: 1, Bytes: []byte("x")}, {N: 8},
	} {
		if !sameAnswer(answers[k], want) {
			t.Errorf("%d, %v: %v, want %v", k, l[k], answers[k], want)
		}
	}
	who[1], who[4] = 3, math.MaxInt
	_, answers = wantRun(t, "by others", town(t), who, l)
	if answers[1].E != api.ErrWho || answers[4].E != api.ErrWho || answers[11].E != api.ErrWho {
		t.Errorf("by others: %v", answers)
	}
}

// inOrders calls do with every order in which lists of that many asks may go, each in its own order.
func inOrders(many []int, do func(who []int)) {
	left, who := slices.Clone(many), []int{}
	var walk func()
	walk = func() {
		ended := true
		for i := range left {
			if left[i] == 0 {
				continue
			}
			ended = false
			left[i]--
			who = append(who, i)
			walk()
			who = who[:len(who)-1]
			left[i]++
		}
		if ended {
			do(who)
		}
	}
	walk()
}

// alone answers what each of those asks of one tenant is told if nobody asks anything else; and, if nobody else is there.
func alone(t *testing.T, p api.Pool, i int, l []api.Ask) []api.Answer {
	t.Helper()
	who := slices.Repeat([]int{i}, len(l))
	_, answers := wantRun(t, "alone", p, who, l)
	for _, n := range []int{api.Slack + p.Tenants[i].Quota, api.MaxBlocks} {
		own, e := pool.New(n, []int{p.Tenants[i].Key}, []int{p.Tenants[i].Quota})
		if e != api.OK {
			t.Fatal(e)
		}
		_, there, e := pool.Run(own, make([]int, len(l)), l)
		if e != api.OK || !slices.EqualFunc(answers, there, sameAnswer) {
			t.Fatalf("where nobody else is: %v, error %d, with others there %v", there, e, answers)
		}
	}
	return answers
}

// mixed lays the asks of all tenants into one list, in the order of who.
func mixed(who []int, asks [][]api.Ask) []api.Ask {
	next, l := make([]int, len(asks)), []api.Ask{}
	for _, i := range who {
		l = append(l, asks[i][next[i]])
		next[i]++
	}
	return l
}

func wantSameAnswers(t *testing.T, what string, who []int, answers []api.Answer, want [][]api.Answer) {
	t.Helper()
	next := make([]int, len(want))
	for k, i := range who {
		if !sameAnswer(answers[k], want[i][next[i]]) {
			t.Fatalf("%s, order %v: tenant %d, ask %d: %v, alone %v", what, who, i, next[i], answers[k], want[i][next[i]])
		}
		next[i]++
	}
}

// The same asks of a tenant, with and without those of others beside them, in every order: the same answers.
func TestSameAnswersInEveryOrder(t *testing.T) {
	full := strings.Repeat("z", api.MaxSize)
	for _, c := range []struct {
		what   string
		quotas []int
		asks   [][]api.Ask
	}{
		{"the same names", []int{4, 9}, [][]api.Ask{
			{named(api.Make, "a"), write("a", "f", "mine"), writeAt("a", "f", 8, "x"), read("a", "f"), uses},
			{named(api.Make, "a"), write("a", "f", "their own"), to(api.Snapshot, "a", "s"), named(api.List, "a"), uses},
		}},
		{"three of them", []int{8, 0, 5}, [][]api.Ask{
			{named(api.Make, "b"), write("b", "f", "1"), read("b", "f")},
			{named(api.Make, "b"), write("b", "f", "2"), read("b", "f")},
			{named(api.Make, "b"), write("b", "f", "3 and more"), uses},
		}},
		{"great ones", []int{85, 225}, [][]api.Ask{
			{named(api.Make, "b"), write("b", "f", full), write("b", "f", full[1:]+"y"), writeAt("b", "g", 9, "x")},
			{named(api.Make, "b"), write("b", "f", full), to(api.Snapshot, "b", "s"), write("b", "f", strings.ToUpper(full))},
		}},
		{"what goes", []int{9, 9}, [][]api.Ask{
			{named(api.Make, "a"), write("a", "f", "one"), clone("a", "s", "b"), named(api.Destroy, "a"), read("a", "f")},
			{named(api.Make, "a"), to(api.Snapshot, "a", "s"), clone("a", "s", "b"), named(api.Destroy, "b"), {Kind: 99}},
		}},
	} {
		keys, blocks, many := []int{5, 5, 6}, api.Slack, []int{}
		for i, quota := range c.quotas {
			blocks += quota
			many = append(many, len(c.asks[i]))
		}
		p, e := pool.New(blocks, keys[:len(c.quotas)], c.quotas)
		if e != api.OK {
			t.Fatal(e)
		}
		var want [][]api.Answer
		for i, l := range c.asks {
			want = append(want, alone(t, p, i, l))
		}
		orders := 0
		inOrders(many, func(who []int) {
			_, answers, e := pool.Run(p, who, mixed(who, c.asks))
			if e != api.OK {
				t.Fatal(e)
			}
			wantSameAnswers(t, c.what, who, answers, want)
			orders++
		})
		if orders < 70 {
			t.Errorf("%s: %d orders", c.what, orders)
		}
	}
}

func someAsk(r *rand.Rand) api.Ask {
	pick := func(l ...string) string { return l[r.Intn(len(l))] }
	kinds := []int{api.Write, api.Write, api.Write, api.Read, api.Snapshot, api.Clone, api.Make, api.Make, 1 + r.Intn(14), r.Intn(16)}
	a := api.Ask{
		Kind: kinds[r.Intn(len(kinds))], Set: pick("a", "a", "b", "c", "d"), File: pick("a", "b", "c", "d", "f"), To: pick("a", "c", "s"),
		At: r.Intn(30), N: r.Intn(60), Bytes: make([]byte, r.Intn(30)),
	}
	if r.Intn(5) == 0 {
		edges := []int{-1, 0, 100, 250, api.MaxSize, api.MaxSize + 1}
		a.At, a.N, a.Bytes = edges[r.Intn(6)], edges[r.Intn(6)], make([]byte, r.Intn(api.MaxSize))
	}
	for i := range a.Bytes {
		a.Bytes[i] = []byte{0, 'x', 'y', 'z'}[r.Intn(4)]
	}
	return a
}

// Many asks of three tenants: what is told is what the document tells step by step, every pool on the way is right, and
// each tenant is told the same as if nobody else were there.
func TestManyAsks(t *testing.T) {
	told := map[api.Errno]int{}
	for seed := range int64(30) {
		r := rand.New(rand.NewSource(seed))
		quotas := []int{r.Intn(100), r.Intn(100), r.Intn(100)}
		p, e := pool.New(api.Slack+quotas[0]+quotas[1]+quotas[2], []int{r.Intn(1001), 5, 5}, quotas)
		if e != api.OK {
			t.Fatal(e)
		}
		var who []int
		var l []api.Ask
		asks := make([][]api.Ask, 3)
		for range api.MaxScript {
			i, a := r.Intn(3), someAsk(r)
			who, l, asks[i] = append(who, i), append(l, a), append(asks[i], a)
		}
		var want [][]api.Answer
		for i := range asks {
			want = append(want, alone(t, p, i, asks[i]))
		}
		_, answers := wantRun(t, fmt.Sprint("seed ", seed), p, who, l)
		wantSameAnswers(t, fmt.Sprint("seed ", seed), who, answers, want)
		for k, a := range l {
			p = wantDone(t, p, who[k], a)
			told[answers[k].E]++
		}
	}
	for _, e := range []api.Errno{api.OK, api.ErrMany, api.ErrRange, api.ErrForm, api.ErrWho, api.ErrTwice, api.ErrFull} {
		if told[e] < 5 {
			t.Errorf("error %d was told %d times only", e, told[e])
		}
	}
}

// However much others have, there is room for all that a tenant may have, and for what is made on the way.
func TestSlackIsEnough(t *testing.T) {
	full := func(c string) string { return strings.Repeat(c, api.MaxSize) }
	p := fresh(t, api.Slack+85+170+54, 85, 170, 54)
	for i, l := range [][]api.Ask{
		{named(api.Make, "a"), write("a", "f", full("1"))},
		{named(api.Make, "a"), write("a", "f", full("1")), to(api.Snapshot, "a", "s"), write("a", "f", full("2"))},
		{named(api.Make, "a"), write("a", "f", full("1")[:4*40])},
	} {
		for _, a := range l {
			p, _ = step(t, p, i, a)
		}
	}
	if n, _ := store.Used(p.S); n != len(p.S.Blocks)-api.Slack {
		t.Fatalf("%d blocks are used", n)
	}
	for _, c := range []string{"3", "4", "5"} {
		for i := range p.Tenants {
			if i < 2 {
				p, _ = step(t, p, i, write("a", "f", full(c)))
				wantRead(t, p, i, "a", "f", full(c))
			}
			// There is room on the way, but not for good.
			refused(t, p, i, write("a", "h", full(c)), api.ErrFull)
		}
	}
}

// lists are all lists of a pool, whole: with their spare room.
func lists(p api.Pool) []reflect.Value {
	l := []reflect.Value{reflect.ValueOf(p.S.Blocks), reflect.ValueOf(p.Tenants)}
	for _, b := range p.S.Blocks {
		l = append(l, reflect.ValueOf(b.Kids), reflect.ValueOf(b.Bytes))
	}
	for _, t := range p.Tenants {
		l = append(l, reflect.ValueOf(t.Sets))
		for _, x := range t.Sets {
			l = append(l, reflect.ValueOf(x.Files), reflect.ValueOf(x.Snaps))
			for _, snap := range x.Snaps {
				l = append(l, reflect.ValueOf(snap.Files))
			}
		}
	}
	return l
}

func listsOf(answers ...api.Answer) []reflect.Value {
	l := []reflect.Value{reflect.ValueOf(answers)}
	for _, answer := range answers {
		l = append(l, reflect.ValueOf(answer.Names), reflect.ValueOf(answer.Bytes))
	}
	return l
}

func size(v reflect.Value) uintptr { return uintptr(v.Cap()) * v.Type().Elem().Size() }

// wantApart: no list of out shares memory with one of in, or with another one of out.
func wantApart(t *testing.T, what string, in, out []reflect.Value) {
	t.Helper()
	all := slices.DeleteFunc(slices.Concat(in, out), func(v reflect.Value) bool { return size(v) == 0 })
	slices.SortFunc(all, func(x, y reflect.Value) int { return int(x.Pointer()) - int(y.Pointer()) })
	isIn := map[uintptr]bool{}
	for _, v := range in {
		isIn[v.Pointer()] = true
	}
	for k := 1; k < len(all); k++ {
		x, y := all[k-1], all[k]
		if x.Pointer()+size(x) > y.Pointer() && !(isIn[x.Pointer()] && isIn[y.Pointer()] && x.Pointer() != y.Pointer()) {
			t.Fatalf("%s: lists share memory: %v, %v", what, x, y)
		}
	}
}

// roomy is l with spare room behind it, filled with x.
func roomy[T any](l []T, x T) []T {
	out := append(make([]T, 0, len(l)+9), l...)
	for i := len(l); i < cap(out); i++ {
		out[:cap(out)][i] = x
	}
	return out
}

func roomyFiles(l []api.Entry) []api.Entry {
	return roomy(l, api.Entry{Name: "spare", F: api.File{Size: 1}})
}

// roomyPool is p, all its lists with spare room behind them.
func roomyPool(p api.Pool) api.Pool {
	blocks := roomy(p.S.Blocks, api.Block{Refs: 1})
	for i, b := range blocks {
		if b.Refs > 0 {
			blocks[i].Kids, blocks[i].Bytes = roomy(b.Kids, 3), roomy(b.Bytes, 3)
		}
	}
	tenants := roomy(p.Tenants, api.Tenant{Key: 9})
	for i := range tenants {
		tenants[i].Sets = roomy(tenants[i].Sets, api.Set{Name: "spare"})
		for j, x := range tenants[i].Sets {
			snaps := roomy(x.Snaps, api.Snap{Name: "spare"})
			for k := range snaps {
				snaps[k].Files = roomyFiles(snaps[k].Files)
			}
			tenants[i].Sets[j] = api.Set{Name: x.Name, Files: roomyFiles(x.Files), Snaps: snaps}
		}
	}
	return api.Pool{S: api.Store{Blocks: blocks}, Tenants: tenants}
}

// whole tells all of a pool, with the spare room of its lists.
func whole(p api.Pool) string {
	told := fmt.Sprint(len(p.S.Blocks), len(p.Tenants))
	for _, v := range lists(p) {
		told += fmt.Sprint(v.Len(), v.Slice(0, v.Cap()))
	}
	return told
}

func TestArgumentsAreOnlyRead(t *testing.T) {
	p := roomyPool(town(t))
	if e := pool.Check(p); e != api.OK {
		t.Fatal(e)
	}
	b := append(make([]byte, 0, 40), "xxxxyyy\x00\x00\x00\x00"...)
	ahead := whole(p) + fmt.Sprint(b[:40])
	in := append(lists(p), reflect.ValueOf(b))
	var who []int
	var asks []api.Ask
	for i := range p.Tenants {
		for kind := range api.Uses + 2 {
			for _, name := range []string{"a", "b", "d", "z", ""} {
				for _, file := range []string{"f", "g", "y", "s"} {
					a := api.Ask{Kind: kind, Set: name, File: file, To: []string{"s", "t", "m", "q"}[len(asks)%4], At: 2, N: 9, Bytes: b}
					who, asks = append(who, i), append(asks, a)
					q, answer, e := pool.Do(p, i, a)
					if e != api.OK {
						t.Fatal(e)
					}
					wantApart(t, fmt.Sprint(a), in, append(lists(q), listsOf(answer)[1:]...))
				}
			}
		}
	}
	for len(asks) > 0 {
		n := min(len(asks), api.MaxScript)
		q, answers, e := pool.Run(p, who[:n], asks[:n])
		if e != api.OK {
			t.Fatal(e)
		}
		wantApart(t, "Run", slices.Concat(in, []reflect.Value{reflect.ValueOf(who), reflect.ValueOf(asks)}), append(lists(q), listsOf(answers...)...))
		who, asks = who[n:], asks[n:]
	}
	if now := whole(p) + fmt.Sprint(b[:40]); now != ahead {
		t.Errorf("what was handed in was changed: %s, was %s", now, ahead)
	}
	keys, quotas := roomy([]int{1, 2}, 3), roomy([]int{4, 5}, 6)
	q, _ := pool.New(120, keys, quotas)
	wantApart(t, "New", []reflect.Value{reflect.ValueOf(keys), reflect.ValueOf(quotas)}, lists(q))
	if fmt.Sprint(keys[:11], quotas[:11]) != "[1 2 3 3 3 3 3 3 3 3 3] [4 5 6 6 6 6 6 6 6 6 6]" {
		t.Errorf("what was handed to New was changed: %v, %v", keys, quotas)
	}
}

// twisted is p with some numbers, names and lists of it turned into others.
func twisted(r *rand.Rand, p api.Pool) api.Pool {
	p = roomyPool(p)
	numbers := []*int{}
	names := []*string{}
	files := []*[]api.Entry{}
	for i := range p.S.Blocks[:24] {
		b := &p.S.Blocks[i]
		numbers = append(numbers, &b.Refs, &b.Level)
		for k := range b.Kids {
			numbers = append(numbers, &b.Kids[k])
		}
	}
	for i := range p.Tenants {
		own := &p.Tenants[i]
		numbers = append(numbers, &own.Key, &own.Quota, &own.Quota)
		for j := range own.Sets {
			x := &own.Sets[j]
			names = append(names, &x.Name)
			files = append(files, &x.Files)
			for k := range x.Snaps {
				names = append(names, &x.Snaps[k].Name)
				files = append(files, &x.Snaps[k].Files)
			}
		}
	}
	for _, l := range files {
		for k := range *l {
			names = append(names, &(*l)[k].Name)
			numbers = append(numbers, &(*l)[k].F.Root, &(*l)[k].F.Root, &(*l)[k].F.Size)
		}
	}
	for range 1 + r.Intn(3) {
		switch r.Intn(8) {
		case 0:
			*names[r.Intn(len(names))] = []string{"", "a", "b", "c", "zz", "B"}[r.Intn(6)]
		case 1:
			l := files[r.Intn(len(files))]
			*l = *files[r.Intn(len(files))]
		case 2:
			p.Tenants = p.Tenants[:r.Intn(6)]
		case 3:
			p.S.Blocks = p.S.Blocks[:r.Intn(cap(p.S.Blocks))]
		case 4:
			own := &p.Tenants[r.Intn(3)%max(len(p.Tenants), 1)]
			own.Sets = own.Sets[:r.Intn(5)%cap(own.Sets)]
		default:
			values := []int{math.MinInt, -1, 0, 1, 2, 3, 4, 8, 13, 14, 22, 99, 256, 1000, math.MaxInt}
			n := numbers[r.Intn(len(numbers))]
			if *n += r.Intn(3) - 1; r.Intn(2) == 0 {
				*n = values[r.Intn(len(values))]
			}
		}
		if len(p.Tenants) == 0 {
			return p
		}
	}
	return p
}

// Pools that are wrong in all kinds of ways: no call panics, and all of them say what the document says.
func TestTwistedPools(t *testing.T) {
	p := town(t)
	told := map[api.Errno]int{}
	for seed := range int64(6000) {
		r := rand.New(rand.NewSource(seed))
		q := twisted(r, p)
		want := checked(q)
		told[want]++
		if e := pool.Check(q); e != want {
			t.Fatalf("seed %d: error %d, want %d: %v", seed, e, want, q)
		}
		i, a := r.Intn(5)-1, someAsk(r)
		got, answer, e := pool.Do(q, i, a)
		wantError(t, fmt.Sprint("Do, seed ", seed), e, firstOf(want, when(i < 0 || i >= len(q.Tenants), api.ErrWho)), got, answer)
		left, answers, e := pool.Run(q, []int{i}, []api.Ask{a})
		wantError(t, fmt.Sprint("Run, seed ", seed), e, want, left, answers)
	}
	for _, e := range []api.Errno{api.OK, api.ErrText, api.ErrMany, api.ErrRange, api.ErrForm, api.ErrWho, api.ErrTwice, api.ErrHeld, api.ErrFull} {
		if told[e] < 20 {
			t.Errorf("error %d was told %d times only", e, told[e])
		}
	}
}
