package audit_test

import (
	"bytes"
	"crypto/sha256"
	"encoding/binary"
	"maps"
	"slices"

	"witan/api"
)

// pairs are what a tree has.
type pairs map[api.Hash]api.Hash

// rising answers the keys, byte by byte.
func (p pairs) rising() []api.Hash {
	return slices.SortedFunc(maps.Keys(p), func(a, b api.Hash) int { return bytes.Compare(a[:], b[:]) })
}

// parted answers the pairs whose keys have the bit of that number 0, and those that have it 1.
func (p pairs) parted(number int) [2]pairs {
	sides := [2]pairs{{}, {}}
	for k, v := range p {
		sides[side(k, number)][k] = v
	}
	return sides
}

// side answers to which side a key leads: its bit of that number.
func side(k api.Hash, number int) int {
	if k[number/8]&(0x80>>(number%8)) != 0 {
		return 1
	}
	return 0
}

// digest is Go's own SHA-256 of a byte and two hashes.
func digest(first byte, a, b api.Hash) api.Hash {
	return sha256.Sum256(slices.Concat([]byte{first}, a[:], b[:]))
}

// rootOf answers the root of pairs at a depth, as layer 9's words have it, made without the program.
func rootOf(p pairs, depth int) api.Hash {
	if len(p) > 1 {
		sides := p.parted(depth)
		return digest(1, rootOf(sides[0], depth+1), rootOf(sides[1], depth+1))
	}
	for k, v := range p {
		return digest(0, k, v)
	}
	return api.Hash{}
}

// shape is a part as layer 10's words have it, made without the program.
type shape struct {
	kind       byte
	key, value api.Hash // a leaf's
	hash       api.Hash // a hidden one's
	sides      [2]*shape
}

// hides answers a hidden node.
func hides(h api.Hash) *shape { return &shape{kind: 3, hash: h} }

// leafOf answers a leaf.
func leafOf(k, v api.Hash) *shape { return &shape{kind: 1, key: k, value: v} }

// cutOf answers the part of the tree of these pairs that is cut for keys, all of which lead to it.
func cutOf(p pairs, depth int, keys []api.Hash) *shape {
	switch {
	case len(p) == 0:
		return &shape{}
	case len(keys) == 0:
		return hides(rootOf(p, depth))
	case len(p) == 1:
		for k, v := range p {
			return leafOf(k, v)
		}
	}
	s, sides := &shape{kind: 2}, p.parted(depth)
	for i := range sides {
		var there []api.Hash
		for _, k := range keys {
			if side(k, depth) == i {
				there = append(there, k)
			}
		}
		s.sides[i] = cutOf(sides[i], depth+1, there)
	}
	return s
}

// bytes of a shape.
func (s *shape) bytes() []byte {
	switch s.kind {
	case 1:
		return slices.Concat([]byte{1}, s.key[:], s.value[:])
	case 2:
		return slices.Concat([]byte{2}, s.sides[0].bytes(), s.sides[1].bytes())
	case 3:
		return slices.Concat([]byte{3}, s.hash[:])
	}
	return []byte{0}
}

// root of a shape.
func (s *shape) root() api.Hash {
	switch s.kind {
	case 1:
		return digest(0, s.key, s.value)
	case 2:
		return digest(1, s.sides[0].root(), s.sides[1].root())
	}
	return s.hash
}

// to answers the node to which a key leads.
func (s *shape) to(k api.Hash) *shape {
	for depth := 0; s.kind == 2; depth++ {
		s = s.sides[side(k, depth)]
	}
	return s
}

// put answers the shape with a pair in it; the key leads to no hidden node.
func (s *shape) put(k, v api.Hash, depth int) *shape {
	if s.kind == 0 || s.kind == 1 && s.key == k {
		return leafOf(k, v)
	}
	n := &shape{kind: 2, sides: s.sides}
	if s.kind == 1 {
		n.sides = [2]*shape{{}, {}}
		n.sides[side(s.key, depth)] = s
	}
	to := side(k, depth)
	n.sides[to] = n.sides[to].put(k, v, depth+1)
	return n
}

// read answers the part whose bytes b begins with, at the node to which the first bits of a way lead; what is left; and the first fault.
func read(b []byte, way api.Hash, depth int) (*shape, []byte, api.Errno) {
	if len(b) == 0 {
		return nil, nil, api.ErrShort
	}
	switch kind, rest := b[0], b[1:]; {
	case kind == 0:
		return &shape{}, rest, api.OK
	case kind == 1 && len(rest) < 64, kind == 3 && len(rest) < 32:
		return nil, nil, api.ErrShort
	case kind == 1:
		s := leafOf(api.Hash(rest[:32]), api.Hash(rest[32:64]))
		for i := range depth {
			if side(s.key, i) != side(way, i) {
				return nil, nil, api.ErrForm
			}
		}
		return s, rest[64:], api.OK
	case kind == 2 && depth < 256:
		return readSides(rest, way, depth)
	case kind == 3:
		return hides(api.Hash(rest[:32])), rest[32:], api.OK
	}
	return nil, nil, api.ErrForm
}

// readSides answers the inner node whose sides b begins with.
func readSides(b []byte, way api.Hash, depth int) (*shape, []byte, api.Errno) {
	s := &shape{kind: 2}
	for i := range s.sides {
		var err api.Errno
		if s.sides[i], b, err = read(b, way, depth+1); err != api.OK {
			return nil, nil, err
		}
		way = turned(way, depth)
	}
	if s.sides[0].kind+s.sides[1].kind < 2 {
		return nil, nil, api.ErrForm
	}
	return s, b, api.OK
}

// readPart answers the part whose bytes these are, or the first fault.
func readPart(b []byte) (*shape, api.Errno) {
	s, rest, err := read(b, api.Hash{}, 0)
	if err == api.OK && len(rest) > 0 {
		err = api.ErrTrail
	}
	return s, err
}

// readBatch answers the updates whose bytes these are, or layer 11's error.
func readBatch(b []byte) ([]api.Update, api.Errno) {
	const wide = 32 + 8 + 32 + 64
	if len(b) < 8 {
		return nil, api.ErrShort
	}
	n, rest := binary.BigEndian.Uint64(b), b[8:]
	switch {
	case n > api.MaxCount:
		return nil, api.ErrBig
	case len(rest) < wide*int(n):
		return nil, api.ErrShort
	case len(rest) > wide*int(n):
		return nil, api.ErrTrail
	}
	var us []api.Update
	for ; len(rest) > 0; rest = rest[wide:] {
		v := binary.BigEndian.Uint64(rest[32:])
		if v > api.MaxKeys {
			return nil, api.ErrForm
		}
		us = append(us, api.Update{Id: api.Hash(rest[:32]), Version: int(v), Key: api.Hash(rest[40:72]), Sig: api.Sig(rest[72:wide])})
	}
	return us, api.OK
}

// cursor goes over bytes in layer 1's form; once it has failed it answers noughts.
type cursor struct {
	rest []byte
	err  api.Errno
}

// take so many bytes.
func (c *cursor) take(n int) []byte {
	if c.err == api.OK && n > len(c.rest) {
		c.err = api.ErrShort
	}
	if c.err != api.OK {
		return make([]byte, min(n, 64))
	}
	b := c.rest[:n]
	c.rest = c.rest[n:]
	return b
}

// most answers a number that is at most limit.
func (c *cursor) most(limit uint64) int {
	n := binary.BigEndian.Uint64(c.take(8))
	if n > limit {
		c.err = api.ErrBig
		return 0
	}
	return int(n)
}

// told answers what a step's bytes say, or the error that Grown is to answer.
func told(step []byte) (*shape, []api.Grown, api.Errno) {
	c := &cursor{rest: step}
	top := c.take(c.most(1 << 20))
	var grown []api.Grown
	var batches [][]byte
	for range c.most(1 << 16) {
		g := api.Grown{Id: api.Hash(c.take(32))}
		for range c.most(1 << 16) {
			if c.err == api.OK {
				g.Keys = append(g.Keys, api.Hash(c.take(32)))
			}
		}
		grown, batches = append(grown, g), append(batches, c.take(c.most(1<<20)))
	}
	switch {
	case c.err != api.OK:
		return nil, nil, c.err
	case len(c.rest) > 0:
		return nil, nil, api.ErrTrail
	}
	s, err := readPart(top)
	for i := 0; i < len(batches) && err == api.OK; i++ {
		grown[i].More, err = readBatch(batches[i])
	}
	if err != api.OK {
		return nil, nil, err
	}
	return s, grown, api.OK
}

// checked answers what Check is to answer.
func checked(from, to api.Hash, step []byte) api.Errno {
	s, grown, err := told(step)
	switch {
	case err != api.OK:
		return err
	case s.root() != from:
		return api.ErrRoot
	}
	for i, g := range grown {
		if i > 0 && bytes.Compare(grown[i-1].Id[:], g.Id[:]) >= 0 || len(g.More) == 0 {
			return api.ErrOrder
		}
		has := s.to(g.Id)
		none := has.kind == 0 || has.kind == 1 && has.key != g.Id
		switch {
		case has.kind == 3:
			return api.ErrUnknown
		case none && len(g.Keys) > 0, !none && (len(g.Keys) == 0 || has.value != valueOf(g.Keys...)):
			return api.ErrRoot
		}
		for j, u := range g.More {
			switch {
			case u.Id != g.Id || !signed(u):
				return api.ErrOwner
			case u.Version != len(g.Keys)+j+1:
				return api.ErrNext
			}
		}
		s = s.put(g.Id, valueOf(slices.Concat(g.Keys, keysOf(g.More))...), 0)
	}
	if s.root() != to {
		return api.ErrRoot
	}
	return api.OK
}
