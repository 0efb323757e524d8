package tree_test

import (
	"bytes"
	"crypto/sha256"
	"maps"
	"math/rand"
	"slices"
	"testing"

	"witan/api"
	"witan/tree"
)

// pairs are what a tree is to have.
type pairs map[api.Hash]api.Hash

// rising answers the keys, byte by byte.
func (p pairs) rising() []api.Hash {
	return slices.SortedFunc(maps.Keys(p), func(a, b api.Hash) int { return bytes.Compare(a[:], b[:]) })
}

// parted answers the pairs whose keys have the bit of that number 0, and those that have it 1.
func (p pairs) parted(number int) [2]pairs {
	sides := [2]pairs{{}, {}}
	for k, v := range p {
		side := 0
		if k[number/8]&(0x80>>(number%8)) != 0 {
			side = 1
		}
		sides[side][k] = v
	}
	return sides
}

// digest is Go's own SHA-256 of a byte and two hashes.
func digest(first byte, a, b api.Hash) api.Hash {
	return sha256.Sum256(slices.Concat([]byte{first}, a[:], b[:]))
}

// rootOf answers the root of pairs at a depth, as the chapter's words have it, made without the program.
func rootOf(p pairs, depth int) api.Hash {
	if len(p) > 1 {
		sides := p.parted(depth)
		return digest(1, rootOf(sides[0], depth+1), rootOf(sides[1], depth+1))
	}
	for k, v := range p {
		return digest(0, k, v)
	}
	return api.Hash{}
}

// treeOf answers the tree into which the pairs were put in the keys' order.
func treeOf(p pairs) tree.Tree {
	return fill(tree.Tree{}, p, p.rising()...)
}

// fill answers the tree into which the pairs with these keys were put, in that order.
func fill(t tree.Tree, p pairs, keys ...api.Hash) tree.Tree {
	for _, k := range keys {
		t = t.Put(k, p[k])
	}
	return t
}

// gets asks for a key, twice.
func gets(t *testing.T, tr tree.Tree, key, want api.Hash, there bool) {
	t.Helper()
	for range 2 {
		if v, ok := tr.Get(key); v != want || ok != there {
			t.Errorf("Get of %x: %x, %v, not %x, %v", key, v, ok, want, there)
		}
	}
}

// tells ranges over the pairs, twice, which are to be these, keys rising.
func tells(t *testing.T, tr tree.Tree, want pairs) {
	t.Helper()
	all := tr.All()
	for range 2 {
		var keys []api.Hash
		for k, v := range all {
			if v != want[k] {
				t.Errorf("All: %x with %x, not %x", k, v, want[k])
			}
			keys = append(keys, k)
		}
		if !slices.Equal(keys, want.rising()) {
			t.Errorf("All: %d keys, not %d, or not rising: %x", len(keys), len(want), keys)
		}
	}
}

// holds holds what a tree itself tells at a depth against the pairs that it is to have.
func holds(t *testing.T, tr tree.Tree, depth int, want pairs) {
	t.Helper()
	if root := rootOf(want, depth); tr.Root() != root {
		t.Errorf("Root of %d pairs at depth %d: %x, not %x", len(want), depth, tr.Root(), root)
	}
	has(t, tr, want)
}

// has holds all that a tree itself tells, but its root, against the pairs that it is to have.
func has(t *testing.T, tr tree.Tree, want pairs) {
	t.Helper()
	if tr.Len() != len(want) {
		t.Errorf("Len: %d, not %d", tr.Len(), len(want))
	}
	tells(t, tr, want)
	for k, v := range want {
		gets(t, tr, k, v, true)
		for _, bit := range []int{0, 1, 7, 8, 200, 254, 255} {
			other := turned(k, bit)
			v, ok := want[other]
			gets(t, tr, other, v, ok)
		}
	}
	key, value, leaf := tr.Leaf()
	if leaf != (len(want) == 1) || leaf && want[key] != value || !leaf && (key != api.Hash{} || value != api.Hash{}) {
		t.Errorf("Leaf of %d pairs: %x, %x, %v", len(want), key, value, leaf)
	}
}

// look holds a tree that stands at a depth, and all nodes below it, against the pairs that it is to have. It answers their root: worked out from below, once for each node.
func look(t *testing.T, tr tree.Tree, depth int, want pairs) api.Hash {
	t.Helper()
	has(t, tr, want)
	l, r, inner := tr.Sides()
	if inner != (len(want) > 1) {
		t.Errorf("Sides of %d pairs: %v", len(want), inner)
	}
	root := api.Hash{}
	if inner {
		sides := want.parted(depth)
		root = digest(1, look(t, l, depth+1, sides[0]), look(t, r, depth+1, sides[1]))
	} else {
		root = rootOf(want, depth)
		holds(t, l, 0, nil)
		holds(t, r, 0, nil)
	}
	if tr.Root() != root {
		t.Errorf("Root of %d pairs at depth %d: %x, not %x", len(want), depth, tr.Root(), root)
	}
	return root
}

// turned answers a key with the bit of that number turned.
func turned(k api.Hash, number int) api.Hash {
	k[number/8] ^= 0x80 >> (number % 8)
	return k
}

// noise answers a hash of anything.
func noise(rnd *rand.Rand) api.Hash {
	var h api.Hash
	rnd.Read(h[:])
	return h
}

// family answers a maker of keys: each number a kind of its own, of which many lie near one another.
func family(kind int, rnd *rand.Rand) func() api.Hash {
	base := noise(rnd)
	switch kind {
	case 0: // anywhere
		return func() api.Hash { return noise(rnd) }
	case 1: // few at all, and noughts among them
		return func() api.Hash { return api.Hash{byte(rnd.Intn(4)) << 6, 31: byte(rnd.Intn(4))} }
	case 2: // unlike in one bit
		return func() api.Hash { return turned(base, rnd.Intn(256)) }
	case 3: // unlike in the last byte
		return func() api.Hash { base[31] = byte(rnd.Intn(256)); return base }
	case 4: // parting about a byte's border
		return func() api.Hash { return turned(turned(base, 6+rnd.Intn(4)), 126+rnd.Intn(4)) }
	default: // parting ever deeper
		return func() api.Hash {
			k, i := base, rnd.Intn(256)
			for ; i < 256; i += 1 + rnd.Intn(40) {
				k = turned(k, i)
			}
			return k
		}
	}
}

// families is how many kinds there are.
const families = 6
