package witness_test

import (
	"bytes"
	"crypto/sha256"
	"maps"
	"math/rand"
	"slices"
	"testing"

	"witan/api"
	"witan/tree"
	"witan/witness"
)

// pairs are what a tree is to have.
type pairs map[api.Hash]api.Hash

// rising answers the keys, byte by byte.
func (p pairs) rising() []api.Hash {
	return slices.SortedFunc(maps.Keys(p), func(a, b api.Hash) int { return bytes.Compare(a[:], b[:]) })
}

// parted answers the pairs whose keys have the bit of that number 0, and those that have it 1.
func (p pairs) parted(number int) [2]pairs {
	sides := [2]pairs{{}, {}}
	for k, v := range p {
		sides[side(k, number)][k] = v
	}
	return sides
}

// with answers the pairs with one more, or with another value.
func (p pairs) with(k, v api.Hash) pairs {
	more := maps.Clone(p)
	more[k] = v
	return more
}

// side answers to which side a key leads: its bit of that number.
func side(k api.Hash, number int) int {
	if k[number/8]&(0x80>>(number%8)) != 0 {
		return 1
	}
	return 0
}

// way answers the first bits of a key, a letter each.
func way(k api.Hash, bits int) string {
	w := make([]byte, bits)
	for i := range w {
		w[i] = "01"[side(k, i)]
	}
	return string(w)
}

// digest is Go's own SHA-256 of a byte and two hashes.
func digest(first byte, a, b api.Hash) api.Hash {
	return sha256.Sum256(slices.Concat([]byte{first}, a[:], b[:]))
}

// treeOf answers the tree of pairs.
func treeOf(p pairs) tree.Tree {
	var t tree.Tree
	for _, k := range p.rising() {
		t = t.Put(k, p[k])
	}
	return t
}

// rootOf answers the root of pairs at a depth, as layer 9's words have it, made without the program.
func rootOf(p pairs, depth int) api.Hash {
	if len(p) > 1 {
		sides := p.parted(depth)
		return digest(1, rootOf(sides[0], depth+1), rootOf(sides[1], depth+1))
	}
	for k, v := range p {
		return digest(0, k, v)
	}
	return api.Hash{}
}

// shape is a part as the chapter's words have it, made without the program.
type shape struct {
	kind       byte
	key, value api.Hash // a leaf's
	hash       api.Hash // a hidden one's
	sides      [2]*shape
}

// hides answers a hidden node.
func hides(h api.Hash) *shape { return &shape{kind: 3, hash: h} }

// leafOf answers a leaf.
func leafOf(k, v api.Hash) *shape { return &shape{kind: 1, key: k, value: v} }

// inner answers an inner node.
func inner(l, r *shape) *shape { return &shape{kind: 2, sides: [2]*shape{l, r}} }

// cutOf answers the part of the tree of these pairs that is cut for keys, all of which lead to it.
func cutOf(p pairs, depth int, keys []api.Hash) *shape {
	switch {
	case len(p) == 0:
		return &shape{}
	case len(keys) == 0:
		return hides(rootOf(p, depth))
	case len(p) == 1:
		for k, v := range p {
			return leafOf(k, v)
		}
	}
	s, sides := &shape{kind: 2}, p.parted(depth)
	for i := range sides {
		var there []api.Hash
		for _, k := range keys {
			if side(k, depth) == i {
				there = append(there, k)
			}
		}
		s.sides[i] = cutOf(sides[i], depth+1, there)
	}
	return s
}

// bytes of a shape.
func (s *shape) bytes() []byte {
	switch s.kind {
	case 1:
		return slices.Concat([]byte{1}, s.key[:], s.value[:])
	case 2:
		return slices.Concat([]byte{2}, s.sides[0].bytes(), s.sides[1].bytes())
	case 3:
		return slices.Concat([]byte{3}, s.hash[:])
	}
	return []byte{0}
}

// root of a shape.
func (s *shape) root() api.Hash {
	switch s.kind {
	case 1:
		return digest(0, s.key, s.value)
	case 2:
		return digest(1, s.sides[0].root(), s.sides[1].root())
	}
	return s.hash
}

// to answers the node to which a key leads.
func (s *shape) to(k api.Hash) *shape {
	for depth := 0; s.kind == 2; depth++ {
		s = s.sides[side(k, depth)]
	}
	return s
}

// keys answers the keys of all leaves that are shown.
func (s *shape) keys() []api.Hash {
	switch s.kind {
	case 1:
		return []api.Hash{s.key}
	case 2:
		return append(s.sides[0].keys(), s.sides[1].keys()...)
	}
	return nil
}

// read answers the part whose bytes b begins with, at the node to which this way leads; what is left; and the first fault.
func read(b []byte, to string) (*shape, []byte, api.Errno) {
	if len(b) == 0 {
		return nil, nil, api.ErrShort
	}
	switch kind, rest := b[0], b[1:]; {
	case kind == 0:
		return &shape{}, rest, api.OK
	case kind == 1 && len(rest) < 64, kind == 3 && len(rest) < 32:
		return nil, nil, api.ErrShort
	case kind == 1:
		s := leafOf(api.Hash(rest[:32]), api.Hash(rest[32:64]))
		if way(s.key, len(to)) != to {
			return nil, nil, api.ErrForm
		}
		return s, rest[64:], api.OK
	case kind == 2 && len(to) < 256:
		return readSides(rest, to)
	case kind == 3:
		return hides(api.Hash(rest[:32])), rest[32:], api.OK
	}
	return nil, nil, api.ErrForm
}

// readSides answers the inner node whose sides b begins with.
func readSides(b []byte, to string) (*shape, []byte, api.Errno) {
	l, rest, err := read(b, to+"0")
	if err != api.OK {
		return nil, nil, err
	}
	r, rest, err := read(rest, to+"1")
	if err != api.OK {
		return nil, nil, err
	}
	switch [2]byte{l.kind, r.kind} {
	case [2]byte{0, 0}, [2]byte{0, 1}, [2]byte{1, 0}:
		return nil, nil, api.ErrForm
	}
	return inner(l, r), rest, api.OK
}

// readAll answers the part whose bytes these are, or the first fault.
func readAll(b []byte) (*shape, api.Errno) {
	s, rest, err := read(b, "")
	if err == api.OK && len(rest) > 0 {
		err = api.ErrTrail
	}
	if err != api.OK {
		return nil, err
	}
	return s, api.OK
}

// parses holds what Parse answers against the chapter's words.
func parses(t *testing.T, b []byte, want api.Errno) {
	t.Helper()
	s, err := readAll(b)
	if err != want {
		t.Fatalf("the test itself: %x: %v, not %v", b, err, want)
	}
	p, err := witness.Parse(b)
	if err != want {
		t.Errorf("Parse of %d bytes, %x: %v, not %v", len(b), head(b), err, want)
	}
	if want != api.OK {
		none(t, p)
	} else if err == api.OK {
		holds(t, p, s)
	}
}

// head answers the first of many bytes.
func head(b []byte) []byte { return b[:min(len(b), 99)] }

// none holds a part against the zero one.
func none(t *testing.T, p witness.Part) {
	t.Helper()
	if p != (witness.Part{}) || !bytes.Equal(p.Bytes(), []byte{0}) {
		t.Errorf("beside an error or a nothing: %x", head(p.Bytes()))
	}
}

// holds holds a part's bytes and its root against what it is to be, and what it tells of all keys shown, and of such as are near them.
func holds(t *testing.T, p witness.Part, want *shape) {
	t.Helper()
	if got := p.Bytes(); !bytes.Equal(got, want.bytes()) {
		t.Fatalf("the part %x, not %x", head(got), head(want.bytes()))
	}
	if p.Root() != want.root() {
		t.Errorf("Root: %x, not %x", p.Root(), want.root())
	}
	gets(t, p, want, api.Hash{})
	for _, k := range want.keys() {
		gets(t, p, want, k)
		for _, bit := range []int{0, 1, 7, 8, 100, 254, 255} {
			gets(t, p, want, turned(k, bit))
		}
	}
}

// gets asks for a key.
func gets(t *testing.T, p witness.Part, want *shape, k api.Hash) {
	t.Helper()
	var value api.Hash
	var there bool
	err := api.OK
	switch s := want.to(k); {
	case s.kind == 3:
		err = api.ErrUnknown
	case s.kind == 1 && s.key == k:
		value, there = s.value, true
	}
	if v, ok, e := p.Get(k); v != value || ok != there || e != err {
		t.Errorf("Get of %x: %x, %v, %v, not %x, %v, %v", k, v, ok, e, value, there, err)
	}
}

// turned answers a key with the bit of that number turned.
func turned(k api.Hash, number int) api.Hash {
	k[number/8] ^= 0x80 >> (number % 8)
	return k
}

// noise answers a hash of anything.
func noise(rnd *rand.Rand) api.Hash {
	var h api.Hash
	rnd.Read(h[:])
	return h
}

// family answers a maker of keys: each number a kind of its own, of which many lie near one another.
func family(kind int, rnd *rand.Rand) func() api.Hash {
	base := noise(rnd)
	switch kind {
	case 0: // anywhere
		return func() api.Hash { return noise(rnd) }
	case 1: // few at all, and noughts among them
		return func() api.Hash { return api.Hash{byte(rnd.Intn(4)) << 6, 31: byte(rnd.Intn(4))} }
	case 2: // unlike in one bit
		return func() api.Hash { return turned(base, rnd.Intn(256)) }
	case 3: // unlike in the last byte
		return func() api.Hash { base[31] = byte(rnd.Intn(256)); return base }
	case 4: // parting about a byte's border
		return func() api.Hash { return turned(turned(base, 6+rnd.Intn(4)), 126+rnd.Intn(4)) }
	default: // parting ever deeper
		return func() api.Hash {
			k, i := base, rnd.Intn(256)
			for ; i < 256; i += 1 + rnd.Intn(40) {
				k = turned(k, i)
			}
			return k
		}
	}
}

// families is how many kinds there are.
const families = 6

// some answers up to most pairs with keys of a maker.
func some(rnd *rand.Rand, most int, next func() api.Hash) pairs {
	p := pairs{}
	for range rnd.Intn(most + 1) {
		p[next()] = noise(rnd)
	}
	return p
}

// picked answers a few keys: of those that are there, of a maker, of anywhere, and some twice.
func picked(rnd *rand.Rand, most int, p pairs, next func() api.Hash) []api.Hash {
	var keys []api.Hash
	have := p.rising()
	for range rnd.Intn(most + 1) {
		switch n := rnd.Intn(8); {
		case n < 4 && len(have) > 0:
			keys = append(keys, have[rnd.Intn(len(have))])
		case n == 4 && len(keys) > 0:
			keys = append(keys, keys[rnd.Intn(len(keys))])
		case n == 5:
			keys = append(keys, noise(rnd))
		default:
			keys = append(keys, next())
		}
	}
	return keys
}
