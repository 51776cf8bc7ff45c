package image

import "rookery/api"

// torn is what a reader panics with when it gives up.
type torn struct{}

// reader takes things from the front of what is left. It gives up by a panic, so that who reads needs no look at an
// error behind each number.
type reader struct{ left []byte }

// take answers the next n bytes, which are still those that were handed in.
func (r *reader) take(n int) []byte {
	if n > len(r.left) {
		panic(torn{})
	}
	b := r.left[:n]
	r.left = r.left[n:]
	return b
}

// end gives up if anything is left.
func (r *reader) end() {
	if len(r.left) > 0 {
		panic(torn{})
	}
}

func (r *reader) number() int {
	b := r.take(2)
	return int(b[0])<<8 | int(b[1])
}

func (r *reader) bytes() []byte { return append([]byte(nil), r.take(r.number())...) }

func (r *reader) name() string { return string(r.take(r.number())) }

// list reads n things. It makes no room ahead: n may be far greater than what follows.
func list[T any](n int, one func() T) []T {
	var l []T
	for range n {
		l = append(l, one())
	}
	return l
}

func (r *reader) pool() api.Pool {
	return api.Pool{S: api.Store{Blocks: list(r.number(), r.block)}, Tenants: list(r.number(), r.tenant)}
}

func (r *reader) block() api.Block {
	return api.Block{Refs: r.number(), Level: r.number(), Kids: list(r.number(), r.number), Bytes: r.bytes()}
}

func (r *reader) tenant() api.Tenant {
	return api.Tenant{Key: r.number(), Quota: r.number(), Sets: list(r.number(), r.set)}
}

func (r *reader) set() api.Set {
	return api.Set{Name: r.name(), Files: r.files(), Snaps: list(r.number(), r.snap)}
}

func (r *reader) snap() api.Snap { return api.Snap{Name: r.name(), Files: r.files()} }

func (r *reader) files() []api.Entry { return list(r.number(), r.entry) }

func (r *reader) entry() api.Entry {
	return api.Entry{Name: r.name(), F: api.File{Root: r.number(), Size: r.number()}}
}
