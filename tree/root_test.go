package tree_test

import (
	"maps"
	"math/rand"
	"testing"

	"witan/api"
	"witan/tree"
)

// P9.3: pairs in any order, some of them ahead with other values: one root.
func TestAnyOrder(t *testing.T) {
	for kind := range families {
		rnd := rand.New(rand.NewSource(int64(980 + kind)))
		next := family(kind, rnd)
		have := pairs{}
		for range 15 {
			have[next()] = noise(rnd)
		}
		want, keys := rootOf(have, 0), have.rising()
		for range 20 {
			rnd.Shuffle(len(keys), func(i, j int) { keys[i], keys[j] = keys[j], keys[i] })
			var tr tree.Tree
			for _, k := range keys[:rnd.Intn(len(keys))] {
				tr = tr.Put(k, noise(rnd))
			}
			if fill(tr, have, keys...).Root() != want {
				t.Errorf("kind %d: the root hangs on the order", kind)
			}
		}
	}
}

// P9.3: with any bit of a key or a value turned, with a pair less or more, with two values changed for each other: another root.
func TestOtherPairs(t *testing.T) {
	rnd := rand.New(rand.NewSource(99))
	have := pairs{}
	for range 5 {
		have[noise(rnd)] = noise(rnd)
	}
	seen := map[api.Hash]pairs{}
	tell := func(p pairs) {
		t.Helper()
		root := treeOf(p).Root()
		if root != rootOf(p, 0) {
			t.Errorf("%d pairs: %x", len(p), root)
		}
		if other, ok := seen[root]; ok && !maps.Equal(other, p) {
			t.Errorf("one root of %d and %d pairs that aren't the same", len(other), len(p))
		}
		seen[root] = maps.Clone(p)
	}
	tell(have)
	tell(nil)
	for k, v := range have {
		for i := range 256 {
			p := maps.Clone(have)
			p[k] = turned(v, i)
			tell(p)
			delete(p, k)
			tell(p)
			p[turned(k, i)] = v
			tell(p)
			p[k] = v
			tell(p)
		}
		for other := range have {
			p := maps.Clone(have)
			p[k], p[other] = p[other], p[k]
			tell(p)
		}
	}
	if n := 1 + 1 + 5*(256+1+256+256) + 10; len(seen) != n {
		t.Errorf("%d roots, not %d", len(seen), n)
	}
}

// P9.3: an inner node can't pass for a leaf, nor a leaf for an inner node, whose 64 bytes are the same.
func TestLeafOrInner(t *testing.T) {
	tr := treeOf(pairs{{1}: {1}, {0x81}: {2}})
	l, r, _ := tr.Sides()
	leaf := tree.Tree{}.Put(l.Root(), r.Root())
	if leaf.Root() == tr.Root() || leaf.Root() != digest(0, l.Root(), r.Root()) || tr.Root() != digest(1, l.Root(), r.Root()) {
		t.Errorf("%x and %x", leaf.Root(), tr.Root())
	}
}

// P9.3: the two sides of a node aren't one for the other, nor is an empty one passed over: where a pair stands is in the root.
func TestWhere(t *testing.T) {
	last := turned(api.Hash{}, 255)
	tr := treeOf(pairs{{}: {1}, last: {2}})
	seen := map[api.Hash]int{tr.Root(): 0}
	for depth := 1; depth < 256; depth++ {
		l, r, _ := tr.Sides()
		if at, ok := seen[l.Root()]; ok {
			t.Errorf("one root at the depths %d and %d", at, depth)
		}
		if r.Root() != (api.Hash{}) || tr.Root() != digest(1, l.Root(), api.Hash{}) || tr.Root() == digest(1, api.Hash{}, l.Root()) {
			t.Errorf("at depth %d: %x and %x", depth, l.Root(), r.Root())
		}
		seen[l.Root()] = depth
		tr = l
	}
}
