// Package wire is layer 1: numbers and lists of bytes in one form alone.
package wire

import (
	"witan/api"
)

// wide is how many bytes a number has.
const wide = 8

// Number behind bytes.
func Number(b []byte, v uint64) []byte {
	n := lay(v)
	return Join(b, n[:])
}

// Bytes behind bytes.
func Bytes(b, x []byte) []byte {
	n := lay(uint64(len(x)))
	return Join(b, n[:], x)
}

// Join bytes.
func Join(parts ...[]byte) []byte {
	size := 0
	for _, p := range parts {
		size += len(p)
	}
	// New memory even for one part alone: append to a part could write into the spare room of what was handed in.
	all := make([]byte, 0, size)
	for _, p := range parts {
		all = append(all, p...)
	}
	return all
}

// lay a number: its bytes, the greatest first.
func lay(v uint64) [wide]byte {
	var b [wide]byte
	for i := range wide {
		b[wide-1-i] = byte(v)
		v >>= 8
	}
	return b
}

// worth is the number that bytes, the greatest first, are; 0 of none.
func worth(b []byte) uint64 {
	var v uint64
	for _, x := range b {
		v = v<<8 | uint64(x)
	}
	return v
}

// Reader goes over bytes.
type Reader struct {
	rest []byte    // not read yet
	fail api.Errno // OK till it fails
}

// New reader.
func New(b []byte) *Reader {
	// A copy: the caller may change its bytes while they are read.
	return &Reader{rest: Join(b)}
}

// Number that stands next.
func (r *Reader) Number() uint64 {
	return worth(r.take(wide))
}

// Bytes that stand next.
func (r *Reader) Bytes() []byte {
	// A copy: two answers would share the reader's memory else.
	return Join(r.take(r.most(api.MaxBytes)))
}

// Hash that stands next.
func (r *Reader) Hash() api.Hash {
	var h api.Hash
	copy(h[:], r.take(len(h)))
	return h
}

// Sig that stands next.
func (r *Reader) Sig() api.Sig {
	var s api.Sig
	copy(s[:], r.take(len(s)))
	return s
}

// Count that stands next.
func (r *Reader) Count() int {
	return r.most(api.MaxCount)
}

// Done: how it went.
func (r *Reader) Done() api.Errno {
	switch {
	case r == nil:
		return api.ErrNil
	case r.fail != api.OK:
		return r.fail
	case len(r.rest) > 0:
		return api.ErrTrail
	}
	return api.OK
}

// most is the number that stands next, if that is at most limit; else the reader fails, and it is 0.
func (r *Reader) most(limit uint64) int {
	v := r.Number()
	if v > limit { // never of a nil or failed reader, whose number is 0: the first error stays
		r.fail = api.ErrBig
		return 0
	}
	return int(v)
}

// take so many bytes, in the reader's own memory; none, if it fails or has failed.
func (r *Reader) take(n int) []byte {
	if r == nil || r.fail != api.OK {
		return nil
	}
	if n > len(r.rest) {
		r.fail = api.ErrShort
		return nil
	}
	x := r.rest[:n]
	r.rest = r.rest[n:]
	return x
}
