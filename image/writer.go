package image

import "rookery/api"

// writer lays numbers and bytes behind what is written so far.
type writer struct{ written []byte }

func (w *writer) numbers(l ...int) {
	for _, n := range l {
		w.written = append(w.written, byte(n>>8), byte(n))
	}
}

func (w *writer) bytes(b []byte) {
	w.numbers(len(b))
	w.written = append(w.written, b...)
}

func (w *writer) name(s string) { w.bytes([]byte(s)) }

func (w *writer) pool(p api.Pool) {
	w.numbers(len(p.S.Blocks))
	for _, b := range p.S.Blocks {
		w.block(b)
	}
	w.numbers(len(p.Tenants))
	for _, t := range p.Tenants {
		w.tenant(t)
	}
}

func (w *writer) block(b api.Block) {
	w.numbers(b.Refs, b.Level, len(b.Kids))
	w.numbers(b.Kids...)
	w.bytes(b.Bytes)
}

func (w *writer) tenant(t api.Tenant) {
	w.numbers(t.Key, t.Quota, len(t.Sets))
	for _, x := range t.Sets {
		w.set(x)
	}
}

func (w *writer) set(x api.Set) {
	w.name(x.Name)
	w.files(x.Files)
	w.numbers(len(x.Snaps))
	for _, snap := range x.Snaps {
		w.name(snap.Name)
		w.files(snap.Files)
	}
}

func (w *writer) files(l []api.Entry) {
	w.numbers(len(l))
	for _, entry := range l {
		w.name(entry.Name)
		w.numbers(entry.F.Root, entry.F.Size)
	}
}
