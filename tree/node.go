package tree

import (
	"witan/api"
	"witan/sha"
)

// pair is a key and its value.
type pair struct{ key, value api.Hash }

// node is a leaf, if it has a pair, else an inner one; nil is the empty one. None is ever changed once it is made, as many trees have it: what a tree was stays. So its root is worked out there and then, too.
type node struct {
	root  api.Hash
	count int // of pairs
	pair  *pair
	sides [2]*node
}

// leaf of a pair.
func leaf(p *pair) *node {
	return &node{root: sha.Sum256([]byte{0}, p.key[:], p.value[:]), count: 1, pair: p}
}

// inner node with these sides.
func inner(sides [2]*node) *node {
	l, r := sides[0].hash(), sides[1].hash()
	return &node{root: sha.Sum256([]byte{1}, l[:], r[:]), count: sides[0].size() + sides[1].size(), sides: sides}
}

// hash of a node: its root; noughts, if it is empty.
func (n *node) hash() api.Hash {
	if n == nil {
		return api.Hash{}
	}
	return n.root
}

// size: how many pairs.
func (n *node) size() int {
	if n == nil {
		return 0
	}
	return n.count
}

// put a pair in: a new node, with new ones on the way to the pair.
func put(n *node, p *pair, depth uint8) *node {
	if n == nil || n.pair != nil && n.pair.key == p.key {
		return leaf(p)
	}
	sides := n.sides
	if n.pair != nil { // another key's leaf: it goes down together with p, till their bits part
		sides[bit(n.pair.key, depth)] = n
	}
	b := bit(p.key, depth)
	sides[b] = put(sides[b], p, depth+1)
	return inner(sides)
}

// find the pair with a key; nil, if there is none.
func (n *node) find(key api.Hash, depth uint8) *pair {
	for n != nil && n.pair == nil {
		n = n.sides[bit(key, depth)]
		depth++
	}
	if n == nil || n.pair.key != key {
		return nil
	}
	return n.pair
}

// walk over the pairs, the left side's first, till tell answers false; then false.
func (n *node) walk(tell func(*pair) bool) bool {
	if n == nil {
		return true
	}
	if n.pair != nil {
		return tell(n.pair)
	}
	return n.sides[0].walk(tell) && n.sides[1].walk(tell)
}

// bit of a key: the highest of its first byte is that of number 0.
func bit(key api.Hash, number uint8) byte {
	return key[number/8] >> (7 - number%8) & 1
}
