package tree_test

import (
	"maps"
	"math/rand"
	"testing"

	"witan/api"
	"witan/tree"
)

// P9.2: an empty tree and a leaf have no sides, an empty tree and an inner node are no leaf; beside the false nothing.
func TestNodes(t *testing.T) {
	look(t, tree.Tree{}, 0, nil)
	look(t, tree.Tree{}.Put(api.Hash{5}, api.Hash{6}), 0, pairs{{5}: {6}})
	look(t, treeOf(pairs{{5}: {6}, {6}: {7}}), 0, pairs{{5}: {6}, {6}: {7}})
	// What stands beside the false is the zero Tree: at no other depth.
	l, r, _ := deep(t, 5).Sides()
	have := pairs{{}: {1}, {0x80}: {2}, {0x04}: {3}}
	look(t, fill(l, have, have.rising()...), 0, have)
	look(t, fill(r, have, have.rising()...), 0, have)
}

// deep answers the leaf that stands at that depth, of two keys that part there.
func deep(t *testing.T, depth int) tree.Tree {
	t.Helper()
	tr := treeOf(pairs{{}: {1}, turned(api.Hash{}, depth-1): {2}})
	for i := range depth {
		l, r, ok := tr.Sides()
		if !ok || i+1 < depth && r.Len() != 0 {
			t.Fatalf("no side at depth %d", i+1)
		}
		tr = l
	}
	return tr
}

// P9.2: what is put into a side goes by its depth; each side of each tree, and the tree stays as it was.
func TestPutIntoSides(t *testing.T) {
	for kind := range families {
		rnd := rand.New(rand.NewSource(int64(970 + kind)))
		next := family(kind, rnd)
		have := pairs{}
		for range 12 {
			have[next()] = noise(rnd)
		}
		tr := treeOf(have)
		putBelow(t, tr, 0, have, next)
		look(t, tr, 0, have)
	}
}

// putBelow puts a pair into each node of a tree, at its depth: one that lies there, if the node has any.
func putBelow(t *testing.T, tr tree.Tree, depth int, have pairs, next func() api.Hash) {
	t.Helper()
	more := maps.Clone(have)
	k := next()
	if len(have) > 0 {
		k = beginning(have.rising()[0], k, depth)
	}
	more[k] = api.Hash{0xaa}
	holds(t, tr.Put(k, api.Hash{0xaa}), depth, more)
	if l, r, ok := tr.Sides(); ok {
		sides := have.parted(depth)
		putBelow(t, l, depth+1, sides[0], next)
		putBelow(t, r, depth+1, sides[1], next)
	}
}

// beginning answers the key that has so many bits of the first one, and then those of the second.
func beginning(first, second api.Hash, bits int) api.Hash {
	for i := range bits {
		mask := byte(0x80 >> (i % 8))
		second[i/8] = second[i/8]&^mask | first[i/8]&mask
	}
	return second
}

// P9.2: an empty side stands at its depth, too.
func TestEmptySides(t *testing.T) {
	tr := treeOf(pairs{{}: {1}, {31: 1}: {2}})
	for depth := 1; depth < 256; depth++ {
		l, r, ok := tr.Sides()
		if !ok || r.Len() != 0 {
			t.Fatalf("at depth %d: %v, %d", depth, ok, r.Len())
		}
		k := turned(api.Hash{}, depth-1)
		have := pairs{k: {3}, turned(k, 255): {4}, turned(k, depth): {5}}
		holds(t, fill(r, have, have.rising()...), depth, have)
		holds(t, r, depth, nil)
		tr = l
	}
}

// P9.2: a side's keys are whole ones: such as lie elsewhere in its tree are others to it, and are told among them, rising, though they lie otherwise by the bits from its depth on.
func TestKeysFromElsewhere(t *testing.T) {
	left, right, _ := treeOf(pairs{{0x40}: {1}, {0xc0}: {2}}).Sides()
	gets(t, left, api.Hash{0xc0}, api.Hash{}, false)
	gets(t, right, api.Hash{0x40}, api.Hash{}, false)
	have := pairs{{0x40}: {1}, {0x80}: {3}}
	look(t, left.Put(api.Hash{0x80}, api.Hash{3}), 1, have)
	have = pairs{{0xc0}: {2}, {0x20}: {4}, {0x60}: {5}}
	look(t, right.Put(api.Hash{0x60}, api.Hash{5}).Put(api.Hash{0x20}, api.Hash{4}), 1, have)
	rnd := rand.New(rand.NewSource(98))
	for depth := 1; depth < 200; depth += 1 + rnd.Intn(20) {
		tr, have := deep(t, depth), pairs{{}: {1}}
		for range 20 {
			k := noise(rnd)
			have[k] = noise(rnd)
			tr = tr.Put(k, have[k])
		}
		look(t, tr, depth, have)
		holds(t, deep(t, depth), depth, pairs{{}: {1}})
	}
}

// P9.1 to P9.3 of keys that part nowhere from a side's depth on: all are there, in any order; the root tells them.
func TestKeysThatDontPart(t *testing.T) {
	for _, depth := range []int{1, 2, 8, 100, 255, 256} {
		side := deep(t, depth)
		other := turned(api.Hash{}, depth-1)
		third := turned(other, 0) // the first key itself at depth 1, where it takes that one's place
		have := pairs{{}: {1}}
		have[other], have[third] = api.Hash{3}, api.Hash{4}
		one, two := fill(side, have, other, third), fill(side, have, third, other)
		has(t, one, have)
		has(t, two, have)
		if one.Root() != two.Root() || one.Root() == side.Root() || one.Root() == side.Put(other, api.Hash{3}).Root() ||
			one.Root() == one.Put(third, api.Hash{5}).Root() || one.Root() == one.Put(turned(third, 9), api.Hash{}).Root() {
			t.Errorf("at depth %d: roots", depth)
		}
		if leaves := under(t, one, 2*256); leaves != len(have) {
			t.Errorf("at depth %d: %d leaves", depth, leaves)
		}
	}
}

// under answers how many leaves stand under a node, at most so deep.
func under(t *testing.T, tr tree.Tree, deep int) int {
	t.Helper()
	if _, _, ok := tr.Leaf(); ok {
		return 1
	}
	l, r, ok := tr.Sides()
	if !ok {
		return 0
	}
	if deep == 0 {
		t.Fatal("no end")
	}
	if digest(1, l.Root(), r.Root()) != tr.Root() || l.Len()+r.Len() != tr.Len() {
		t.Error("a node isn't its sides")
	}
	return under(t, l, deep-1) + under(t, r, deep-1)
}
