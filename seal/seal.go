// Package seal adds a stream of bytes, told by a key and a place, to the bytes of a tenant: see doc/01-seal.md.
package seal

import "rookery/api"

// The stream's numbers are the document's: another one here opens no bytes that were sealed ahead of it.
const (
	perKey  = 104729
	perAt   = 7919
	first   = 12345
	factor  = 75
	step    = 74
	modulus = 65537
)

// Check answers ErrRange unless key and at are ones that bytes can be sealed with.
func Check(key, at int) api.Errno {
	if key < 0 || key > api.MaxKey || at < 0 || at >= api.MaxSize {
		return api.ErrRange
	}
	return api.OK
}

// Seal answers b, sealed by key at the place at.
func Seal(key, at int, b []byte) ([]byte, api.Errno) {
	return turn(key, at, b, func(plain, next byte) byte { return plain + next })
}

// Open answers what Seal, with the same key and place, made b of.
func Open(key, at int, b []byte) ([]byte, api.Errno) {
	return turn(key, at, b, func(sealed, next byte) byte { return sealed - next })
}

// turn is the one way through Seal and Open, so that they can't differ in their errors or in their stream.
func turn(key, at int, b []byte, mix func(old, next byte) byte) ([]byte, api.Errno) {
	if e := Check(key, at); e != api.OK {
		return nil, e
	}
	if len(b) > api.MaxSize {
		return nil, api.ErrMany
	}
	next := stream(key, at)
	out := make([]byte, len(b))
	for i, old := range b {
		out[i] = mix(old, next())
	}
	return out, api.OK
}

// stream answers a function that tells one more byte of the stream each time it is called.
func stream(key, at int) func() byte {
	// The start is taken modulo, too, which changes no byte, so that factor times it fits an int of 32 bits.
	x := (key*perKey + at*perAt + first) % modulus
	return func() byte {
		x = (factor*x + step) % modulus
		return byte(x / 8 % 256)
	}
}
