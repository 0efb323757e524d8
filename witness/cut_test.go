package witness_test

import (
	"bytes"
	"math/rand"
	"slices"
	"testing"

	"witan/api"
	"witan/tree"
	"witan/witness"
)

// The chapter's examples.
func TestExamples(t *testing.T) {
	if b := (witness.Part{}).Bytes(); !bytes.Equal(b, []byte{0}) {
		t.Errorf("the empty part: %x", b)
	}
	two := treeOf(pairs{{1}: {2}, {0x81}: {3}})
	p, root := witness.Cut(two), two.Root()
	if b := p.Bytes(); !bytes.Equal(b, append([]byte{3}, root[:]...)) {
		t.Errorf("without keys: %x", b)
	}
	for _, k := range []api.Hash{{}, {1}, {0x81}, {0xff}} {
		if v, ok, err := p.Get(k); v != (api.Hash{}) || ok || err != api.ErrUnknown {
			t.Errorf("Get of %x: %x, %v, %v", k, v, ok, err)
		}
	}
	p, err := witness.Parse([]byte{2, 0, 0})
	if err != api.ErrForm {
		t.Errorf("02 00 00: %v", err)
	}
	none(t, p)
}

// P10.1: parts written out.
func TestCutWrittenOut(t *testing.T) {
	// a and b lie on the left, parted by their third bit; c is alone on the right.
	a, b, c := api.Hash{0x00}, api.Hash{0x20}, api.Hash{0x80}
	have := pairs{a: {1}, b: {2}, c: {3}}
	tr := treeOf(have)
	leafA, leafB, leafC := leafOf(a, api.Hash{1}), leafOf(b, api.Hash{2}), leafOf(c, api.Hash{3})
	nothing := &shape{}
	hideA, hideB, hideC := hides(leafA.root()), hides(leafB.root()), hides(leafC.root())
	low := inner(inner(leafA, leafB), nothing)
	hideLow := hides(low.root())
	top := hides(inner(low, leafC).root())
	for _, x := range []struct {
		name string
		keys []api.Hash
		want *shape
	}{
		{"none", nil, top},
		{"a", []api.Hash{a}, inner(inner(inner(leafA, hideB), nothing), hideC)},
		{"beside a", []api.Hash{{31: 1}}, inner(inner(inner(leafA, hideB), nothing), hideC)},
		{"b", []api.Hash{b}, inner(inner(inner(hideA, leafB), nothing), hideC)},
		{"c", []api.Hash{c}, inner(hideLow, leafC)},
		{"beside c", []api.Hash{{0xff}}, inner(hideLow, leafC)},
		{"to the empty one", []api.Hash{{0x40}}, inner(inner(hides(inner(leafA, leafB).root()), nothing), hideC)},
		{"a and c", []api.Hash{a, c}, inner(inner(inner(leafA, hideB), nothing), leafC)},
		{"b, b, a", []api.Hash{b, b, a}, inner(low, hideC)},
		{"all", []api.Hash{c, b, a}, inner(low, leafC)},
	} {
		p := witness.Cut(tr, x.keys...)
		if !bytes.Equal(p.Bytes(), x.want.bytes()) {
			t.Errorf("%s: %x, not %x", x.name, p.Bytes(), x.want.bytes())
		}
		holds(t, p, x.want)
	}
}

// P10.1: an empty tree's part is the empty one, that of one pair a leaf for any key, or hidden.
func TestCutSmall(t *testing.T) {
	none(t, witness.Cut(tree.Tree{}))
	none(t, witness.Cut(tree.Tree{}, api.Hash{}, api.Hash{1}))
	one := tree.Tree{}.Put(api.Hash{}, api.Hash{})
	holds(t, witness.Cut(one), hides(digest(0, api.Hash{}, api.Hash{})))
	for _, k := range []api.Hash{{}, {0xff}, {31: 1}} {
		holds(t, witness.Cut(one, k), leafOf(api.Hash{}, api.Hash{}))
	}
}

// P10.1: trees of all kinds, for keys of all kinds, in any order.
func TestCut(t *testing.T) {
	for kind := range families {
		rnd := rand.New(rand.NewSource(int64(1010 + kind)))
		next := family(kind, rnd)
		for range 60 {
			have := some(rnd, 20, next)
			keys := picked(rnd, 6, have, next)
			tr, want := treeOf(have), cutOf(have, 0, keys)
			holds(t, witness.Cut(tr, keys...), want)
			rnd.Shuffle(len(keys), func(i, j int) { keys[i], keys[j] = keys[j], keys[i] })
			holds(t, witness.Cut(tr, keys...), want)
			if tr.Root() != want.root() {
				t.Errorf("kind %d: a part's root isn't its tree's", kind)
			}
		}
	}
}

// P10.1: keys that part at each bit, down to the last one: shown are the nodes on the way alone.
func TestCutEachBit(t *testing.T) {
	base := noise(rand.New(rand.NewSource(1020)))
	for i := range 256 {
		have := pairs{base: {1}, turned(base, i): {2}}
		tr := treeOf(have)
		for j := range 256 {
			k := turned(base, j)
			if i > 8 && i < 247 && j%16 != i%16 {
				continue
			}
			holds(t, witness.Cut(tr, k), cutOf(have, 0, []api.Hash{k}))
		}
		holds(t, witness.Cut(tr, have.rising()...), cutOf(have, 0, have.rising()))
	}
}

// What is handed in stays as it is, its order and its spare room too; a part doesn't hang on it later.
func TestCutHandedIn(t *testing.T) {
	rnd := rand.New(rand.NewSource(1021))
	have := some(rnd, 30, family(0, rnd))
	tr := treeOf(have)
	keys := make([]api.Hash, 20)
	for i := range keys {
		keys[i] = noise(rnd)
	}
	before := slices.Clone(keys)
	want := cutOf(have, 0, before[:9])
	p := witness.Cut(tr, keys[:9]...)
	if !slices.Equal(keys, before) {
		t.Error("the keys changed")
	}
	clear(keys)
	holds(t, p, want)
	if root := rootOf(have, 0); tr.Root() != root {
		t.Error("the tree changed")
	}
	one, two := p.Bytes(), p.Bytes()
	clear(one[:cap(one)])
	if !bytes.Equal(two, want.bytes()) {
		t.Error("two answers share memory")
	}
	holds(t, p, want)
}

// No promise is made of the part of a side, nor of a side with keys from elsewhere; but each call ends, and none panics.
func TestCutSides(t *testing.T) {
	for _, depth := range []int{1, 2, 8, 255, 256} {
		last := turned(api.Hash{}, depth-1)
		side := treeOf(pairs{{}: {1}, last: {2}})
		for range depth {
			side, _, _ = side.Sides()
		}
		keys := []api.Hash{{}, last, turned(last, 0), turned(last, 255), {0xff}}
		for _, k := range keys {
			side = side.Put(k, api.Hash{9})
		}
		for n := range len(keys) + 1 {
			p := witness.Cut(side, keys[:n]...)
			p.Root()
			for _, k := range append(keys, api.Hash{5}) {
				p.Get(k)
				q, _ := p.Put(k, api.Hash{7})
				witness.Parse(q.Bytes())
			}
			witness.Parse(p.Bytes())
		}
	}
}

// P10.1: as many keys as may be handed in.
func TestCutMany(t *testing.T) {
	n := 1 << 20
	if testing.Short() {
		n = 1 << 14
	}
	rnd := rand.New(rand.NewSource(1022))
	have := pairs{}
	for range 5000 {
		have[noise(rnd)] = noise(rnd)
	}
	tr := treeOf(have)
	keys := make([]api.Hash, n)
	for i := range keys {
		keys[i] = noise(rnd)
	}
	p := witness.Cut(tr, keys...)
	for _, k := range keys[:999] {
		if v, ok, err := p.Get(k); ok || v != (api.Hash{}) || err != api.OK {
			t.Fatalf("Get of %x: %x, %v, %v", k, v, ok, err)
		}
	}
	q, err := witness.Parse(p.Bytes())
	if err != api.OK || q.Root() != tr.Root() || p.Root() != tr.Root() {
		t.Errorf("%v, or the root", err)
	}
	for i := range keys {
		keys[i] = api.Hash{31: byte(i)}
	}
	deep := treeOf(pairs{{}: {1}, {31: 1}: {2}})
	if p := witness.Cut(deep, keys...); p.Root() != deep.Root() {
		t.Error("the root")
	}
}
