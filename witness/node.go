package witness

import (
	"witan/api"
	"witan/sha"
	"witan/tree"
)

// The bytes that tell the four kinds of node.
const (
	kindEmpty byte = iota
	kindLeaf
	kindInner
	kindHidden
)

// node is one of four kinds: empty, leaf, inner, hidden. None is changed once it is made, as many parts may have it; so an inner one's root is worked out there and then, and isn't asked of its sides again and again.
type node interface {
	root() api.Hash
	lay(b []byte) []byte // its own bytes behind b
}

// empty has no pairs.
type empty struct{}

// leaf has one pair.
type leaf struct{ hash, key, value api.Hash }

// inner has two sides.
type inner struct {
	hash  api.Hash
	sides [2]node
}

// hidden has its root alone.
type hidden struct{ hash api.Hash }

// leafOf a pair.
func leafOf(key, value api.Hash) leaf {
	return leaf{sha.Sum256([]byte{0}, key[:], value[:]), key, value}
}

// innerOf two sides.
func innerOf(sides [2]node) inner {
	l, r := sides[0].root(), sides[1].root()
	return inner{sha.Sum256([]byte{1}, l[:], r[:]), sides}
}

func (empty) root() api.Hash    { return api.Hash{} }
func (n leaf) root() api.Hash   { return n.hash }
func (n inner) root() api.Hash  { return n.hash }
func (n hidden) root() api.Hash { return n.hash }

func (empty) lay(b []byte) []byte {
	return append(b, kindEmpty)
}

func (n leaf) lay(b []byte) []byte {
	return append(append(append(b, kindLeaf), n.key[:]...), n.value[:]...)
}

func (n inner) lay(b []byte) []byte {
	return n.sides[1].lay(n.sides[0].lay(append(b, kindInner)))
}

func (n hidden) lay(b []byte) []byte {
	return append(append(b, kindHidden), n.hash[:]...)
}

// cut a node of a tree for the keys that lead to it; they are laid in another order.
func cut(t tree.Tree, keys []api.Hash, depth uint8) node {
	if t.Len() == 0 {
		return empty{}
	}
	if len(keys) == 0 {
		return hidden{t.Root()}
	}
	if key, value, ok := t.Leaf(); ok {
		return leaf{t.Root(), key, value}
	}
	l, r, _ := t.Sides()
	left, right := parted(keys, depth)
	return inner{t.Root(), [2]node{cut(l, left, depth+1), cut(r, right, depth+1)}}
}

// parted lays the keys whose bit of that number is 0 ahead of the others, and answers both.
func parted(keys []api.Hash, number uint8) ([]api.Hash, []api.Hash) {
	n := 0
	for i, k := range keys {
		if bit(k, number) == 0 {
			keys[i], keys[n] = keys[n], k
			n++
		}
	}
	return keys[:n], keys[n:]
}

// get what the node tells of a key. ErrUnknown.
func get(n node, key api.Hash) (api.Hash, bool, api.Errno) {
	for depth := uint8(0); ; depth++ {
		switch at := n.(type) {
		case inner:
			n = at.sides[bit(key, depth)]
			continue
		case leaf:
			if at.key == key {
				return at.value, true, api.OK
			}
		case hidden:
			return api.Hash{}, false, api.ErrUnknown
		}
		return api.Hash{}, false, api.OK
	}
}

// put a pair in: a new node, with new ones on the way to the pair. ErrUnknown.
func put(n node, p leaf, depth uint8) (node, api.Errno) {
	sides := [2]node{empty{}, empty{}}
	switch at := n.(type) {
	case empty:
		return p, api.OK
	case hidden:
		return nil, api.ErrUnknown
	case leaf:
		if at.key == p.key {
			return p, api.OK
		}
		// Another key's: it goes down together with p, till their bits part.
		sides[bit(at.key, depth)] = at
	case inner:
		sides = at.sides
	}
	b := bit(p.key, depth)
	side, err := put(sides[b], p, depth+1)
	if err != api.OK {
		return nil, err
	}
	sides[b] = side
	return innerOf(sides), api.OK
}

// bit of a key: the highest of its first byte is that of number 0. A uint8, so that in the part of a tree that isn't whole, too, there is no bit beyond the last one.
func bit(key api.Hash, number uint8) byte {
	return key[number/8] >> (7 - number%8) & 1
}
