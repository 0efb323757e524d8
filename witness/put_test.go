package witness_test

import (
	"math/rand"
	"slices"
	"testing"

	"witan/api"
	"witan/tree"
	"witan/witness"
)

// putIn answers the shape with a pair put in at a depth, as layer 9 has it: anew from the node to which the key leads.
func putIn(s *shape, depth int, k, v api.Hash) *shape {
	if s.kind == 2 {
		sides, b := s.sides, side(k, depth)
		sides[b] = putIn(sides[b], depth+1, k, v)
		return inner(sides[0], sides[1])
	}
	p := pairs{k: v}
	if s.kind == 1 && s.key != k {
		p[s.key] = s.value
	}
	return cutOf(p, depth, p.rising())
}

// puts puts a pair into a part and answers what it is then; the part itself stays as it was.
func puts(t *testing.T, p witness.Part, s *shape, k, v api.Hash) (witness.Part, *shape) {
	t.Helper()
	q, err := p.Put(k, v)
	if s.to(k).kind == 3 {
		if err != api.ErrUnknown {
			t.Errorf("Put of %x, which leads to a hidden node: %v", k, err)
		}
		none(t, q)
		holds(t, p, s)
		return p, s
	}
	if err != api.OK {
		t.Fatalf("Put of %x: %v", k, err)
	}
	more := putIn(s, 0, k, v)
	holds(t, q, more)
	gets(t, q, more, k)
	holds(t, p, s)
	return q, more
}

// P10.3: the zero Part, a leaf and a hidden one at the top.
func TestPutSmall(t *testing.T) {
	holds(t, witness.Part{}, &shape{})
	one, s := puts(t, witness.Part{}, &shape{}, api.Hash{}, api.Hash{})
	if one.Root() != (tree.Tree{}).Put(api.Hash{}, api.Hash{}).Root() {
		t.Error("a leaf's root")
	}
	puts(t, one, s, api.Hash{}, api.Hash{1})
	puts(t, one, s, api.Hash{}, api.Hash{})
	hidden := witness.Cut(treeOf(pairs{{1}: {2}}))
	puts(t, hidden, hides(digest(0, api.Hash{1}, api.Hash{2})), api.Hash{1}, api.Hash{2})
	noughts, err := witness.Parse(make([]byte, 33))
	if err != api.ErrTrail {
		t.Errorf("%v", err)
	}
	noughts, err = witness.Parse(hides(api.Hash{}).bytes())
	if err != api.OK {
		t.Errorf("%v", err)
	}
	puts(t, noughts, hides(api.Hash{}), api.Hash{}, api.Hash{}) // no empty one, though its root is the same
}

// P10.3: a key that parts from a leaf's at each bit, and at each bit of an inner node's way.
func TestPutEachBit(t *testing.T) {
	base := noise(rand.New(rand.NewSource(1070)))
	for i := range 256 {
		leaf, err := witness.Parse(leafOf(base, api.Hash{1}).bytes())
		if err != api.OK {
			t.Fatal(err)
		}
		p, s := puts(t, leaf, leafOf(base, api.Hash{1}), turned(base, i), api.Hash{2})
		for _, j := range []int{0, i - 1, i, i + 1, 255} {
			if j >= 0 && j < 256 {
				puts(t, p, s, turned(base, j), api.Hash{3})
				puts(t, p, s, turned(turned(base, i), j), api.Hash{4})
			}
		}
		half := witness.Cut(treeOf(pairs{base: {1}, turned(base, i): {2}}), base)
		s = cutOf(pairs{base: {1}, turned(base, i): {2}}, 0, []api.Hash{base})
		for _, j := range []int{0, i - 1, i, i + 1, 255} {
			if j >= 0 && j < 256 {
				puts(t, half, s, turned(base, j), api.Hash{3})
			}
		}
	}
}

// P10.3: Put by Put into parts of all kinds, of keys that are shown, of such as lead to empty ones, and to hidden ones; each part ahead of it stays as it was.
func TestPut(t *testing.T) {
	for kind := range families {
		rnd := rand.New(rand.NewSource(int64(1080 + kind)))
		next := family(kind, rnd)
		for range 8 {
			have := some(rnd, 20, next)
			keys := picked(rnd, 5, have, next)
			parts, shapes := []witness.Part{witness.Cut(treeOf(have), keys...)}, []*shape{cutOf(have, 0, keys)}
			for range 12 {
				// Not always into the newest: two parts may come of one.
				i := max(rnd.Intn(len(parts)), rnd.Intn(len(parts)))
				k := next()
				if n := rnd.Intn(3*len(keys) + 1); n < 2*len(keys) {
					k = keys[n/2]
				}
				p, s := puts(t, parts[i], shapes[i], k, noise(rnd))
				parts, shapes = append(parts, p), append(shapes, s)
			}
			for i := range parts {
				holds(t, parts[i], shapes[i])
			}
		}
	}
}

// P10.4: for the keys that it was cut for a part tells what its tree does and has its root, as it was cut or read, and stays so whatever is put for them.
func TestAsTheTree(t *testing.T) {
	for kind := range families {
		rnd := rand.New(rand.NewSource(int64(1090 + kind)))
		next := family(kind, rnd)
		for range 25 {
			have := some(rnd, 25, next)
			keys := append(picked(rnd, 6, have, next), next())
			tr := treeOf(have)
			p := witness.Cut(tr, keys...)
			q, err := witness.Parse(p.Bytes())
			if err != api.OK {
				t.Fatal(err)
			}
			for range 15 {
				asTheTree(t, tr, keys, p, q)
				k, v := keys[rnd.Intn(len(keys))], noise(rnd)
				tr = tr.Put(k, v)
				p, q = put(t, p, k, v), put(t, q, k, v)
			}
			asTheTree(t, tr, keys, p, q)
		}
	}
}

// put puts a pair into a part that tells of its key.
func put(t *testing.T, p witness.Part, k, v api.Hash) witness.Part {
	t.Helper()
	q, err := p.Put(k, v)
	if err != api.OK {
		t.Fatalf("Put of %x: %v", k, err)
	}
	return q
}

// asTheTree holds parts against their tree, and the keys for which they were cut.
func asTheTree(t *testing.T, tr tree.Tree, keys []api.Hash, parts ...witness.Part) {
	t.Helper()
	for _, p := range parts {
		if p.Root() != tr.Root() {
			t.Errorf("Root: %x, the tree's %x", p.Root(), tr.Root())
		}
		for _, k := range keys {
			v, ok := tr.Get(k)
			if got, there, err := p.Get(k); got != v || there != ok || err != api.OK {
				t.Errorf("Get of %x: %x, %v, %v, the tree's %x, %v", k, got, there, err, v, ok)
			}
		}
	}
}

// P10.4: a part that was cut for all keys is as the tree's own, Put by Put.
func TestWholePart(t *testing.T) {
	for kind := range families {
		rnd := rand.New(rand.NewSource(int64(1100 + kind)))
		next := family(kind, rnd)
		have := some(rnd, 20, next)
		p := witness.Cut(treeOf(have), append(have.rising(), api.Hash{})...)
		for range 20 {
			k, v := next(), noise(rnd)
			p, have = put(t, p, k, v), have.with(k, v)
			holds(t, p, cutOf(have, 0, have.rising()))
			asTheTree(t, treeOf(have), have.rising(), p)
		}
	}
}

// P10.4: with another value in one place of a part, or another root, its root is another one.
func TestOtherParts(t *testing.T) {
	rnd := rand.New(rand.NewSource(1110))
	have := pairs{}
	for range 9 {
		have[noise(rnd)] = noise(rnd)
	}
	keys := have.rising()[2:4]
	b := witness.Cut(treeOf(have), keys...).Bytes()
	seen := map[api.Hash]bool{treeOf(have).Root(): true}
	for i := range b {
		for bit := range 8 {
			c := slices.Clone(b)
			c[i] ^= 1 << bit
			p, err := witness.Parse(c)
			if err != api.OK {
				continue
			}
			if seen[p.Root()] {
				t.Errorf("with the bit %d of the byte %d turned: a root that was there", bit, i)
			}
			seen[p.Root()] = true
		}
	}
	if len(seen) < 1000 {
		t.Errorf("%d parts alone", len(seen))
	}
}

func BenchmarkCut(b *testing.B) {
	rnd := rand.New(rand.NewSource(1120))
	have := pairs{}
	for range 10000 {
		have[noise(rnd)] = noise(rnd)
	}
	tr := treeOf(have)
	k := have.rising()[5000]
	for b.Loop() {
		witness.Cut(tr, k)
	}
}

func BenchmarkParse(b *testing.B) {
	k := api.Hash{}
	part := witness.Cut(treeOf(pairs{k: {1}, turned(k, 255): {2}}), k).Bytes()
	for b.Loop() {
		witness.Parse(part)
	}
}
