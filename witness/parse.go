package witness

import "witan/api"

// deepest is how deep a leaf may stand: there the way has said all bits of its key.
const deepest = 256

// place is where a node stands.
type place struct {
	way   api.Hash // the bits that lead there, and noughts
	depth int      // how many bits
}

// side of the place, one deeper.
func (p place) side(b byte) place {
	p.way[p.depth/8] |= b << (7 - p.depth%8)
	p.depth++
	return p
}

// leads tells whether a key leads there.
func (p place) leads(key api.Hash) bool {
	for i := range p.depth {
		if bit(key, uint8(i)) != bit(p.way, uint8(i)) {
			return false
		}
	}
	return true
}

// reader goes over a part's bytes, which it doesn't change. Once it has failed it finds noughts, which are an empty node: so it comes to its end.
type reader struct {
	rest []byte    // not read yet
	fail api.Errno // OK till it fails
}

// node that stands next, and all that is within.
func (r *reader) node(at place) node {
	switch r.kind() {
	case kindEmpty:
		return empty{}
	case kindLeaf:
		return r.leaf(at)
	case kindInner:
		return r.inner(at)
	case kindHidden:
		return hidden{r.hash()}
	}
	r.fails(api.ErrForm)
	return empty{}
}

// leaf that stands next, behind its first byte.
func (r *reader) leaf(at place) node {
	n := leafOf(r.hash(), r.hash())
	if !at.leads(n.key) {
		r.fails(api.ErrForm)
	}
	return n
}

// inner node that stands next, behind its first byte.
func (r *reader) inner(at place) node {
	if at.depth == deepest {
		r.fails(api.ErrForm)
		return empty{}
	}
	var sides [2]node
	for b := range sides {
		sides[b] = r.node(at.side(byte(b)))
	}
	// One pair alone is a leaf, none an empty node, wherever it stands.
	if least(sides[0])+least(sides[1]) < 2 {
		r.fails(api.ErrForm)
	}
	return innerOf(sides)
}

// least number of pairs that a node of a tree may have. Of a hidden one nothing is known: it may have as many as an inner one.
func least(n node) int {
	switch n.(type) {
	case empty:
		return 0
	case leaf:
		return 1
	}
	return 2
}

// kind that stands next: a byte.
func (r *reader) kind() byte {
	var b [1]byte
	copy(b[:], r.take(len(b)))
	return b[0]
}

// hash that stands next.
func (r *reader) hash() api.Hash {
	var h api.Hash
	copy(h[:], r.take(len(h)))
	return h
}

// take so many bytes; none, if it fails or has failed.
func (r *reader) take(n int) []byte {
	if len(r.rest) < n {
		r.fails(api.ErrShort)
	}
	if r.fail != api.OK {
		return nil
	}
	b := r.rest[:n]
	r.rest = r.rest[n:]
	return b
}

// fails, if it hasn't yet: the first fault in the bytes is the one that is told.
func (r *reader) fails(err api.Errno) {
	if r.fail == api.OK {
		r.fail = err
	}
}
