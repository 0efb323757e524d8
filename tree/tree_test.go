package tree_test

import (
	"encoding/hex"
	"maps"
	"math/rand"
	"testing"

	"witan/api"
	"witan/sha"
	"witan/tree"
)

// The chapter's examples.
func TestExamples(t *testing.T) {
	var e tree.Tree
	if e.Root() != (api.Hash{}) {
		t.Errorf("the empty root: %x", e.Root())
	}
	k, v := api.Hash{7}, api.Hash{8}
	a := e.Put(k, v)
	if key, value, ok := a.Leaf(); !ok || key != k || value != v {
		t.Errorf("a leaf: %x, %x, %v", key, value, ok)
	}
	if a.Root() != sha.Sum256([]byte{0}, k[:], v[:]) {
		t.Errorf("a leaf's root: %x", a.Root())
	}
	b := e.Put(api.Hash{}, v).Put(api.Hash{0x80}, k)
	if key, value, ok := b.Leaf(); ok || key != (api.Hash{}) || value != (api.Hash{}) {
		t.Errorf("an inner node: a leaf of %x, %x", key, value)
	}
	l, r, ok := b.Sides()
	if !ok {
		t.Fatal("no inner node")
	}
	if key, value, ok := l.Leaf(); !ok || key != (api.Hash{}) || value != v {
		t.Errorf("the left side: %x, %x, %v", key, value, ok)
	}
	if key, value, ok := r.Leaf(); !ok || key != (api.Hash{0x80}) || value != k {
		t.Errorf("the right side: %x, %x, %v", key, value, ok)
	}
}

// P9.1: roots that were worked out elsewhere.
func TestWrittenOut(t *testing.T) {
	many := pairs{}
	for i := range 256 {
		var k, v api.Hash
		for j := range k {
			k[j], v[j] = byte(i), byte(255-i)
		}
		many[k] = v
	}
	for _, c := range []struct {
		name, want string
		have       pairs
	}{
		{"none", "0000000000000000000000000000000000000000000000000000000000000000", nil},
		{"one", "98ce42deef51d40269d542f5314bef2c7468d401ad5d85168bfab4c0108f75f7", pairs{{}: {}}},
		{"two", "990d0ccc46e01c729e8d8f2839babf41cc2ecbb6468a9121616e984bcdea5773", pairs{{}: {1}, {0x80}: {2}}},
		{"three", "ce7c98c8191b2b0e66c40f4e327610dd3a2ffc22d9a973a3ac6c7eaf6e39cd00", pairs{{}: {1}, {0x80}: {2}, {0x40}: {3}}},
		{"the last bit", "dd723eb4e4e6716f1dbe88f45f5dd80ac5ca45ab1042a81618afd7229e61f7dd", pairs{{}: {31: 1}, {31: 1}: {31: 2}}},
		{"many", "2a58e898e2f90de3f3d8c8be55207aba2412491e718cb657a66e440eb06064cf", many},
	} {
		if got := treeOf(c.have).Root(); hex.EncodeToString(got[:]) != c.want {
			t.Errorf("%s: %x", c.name, got)
		}
	}
}

// P9.1: the zero Tree has nothing, whatever is asked.
func TestEmpty(t *testing.T) {
	look(t, tree.Tree{}, 0, nil)
	for i := range 256 {
		gets(t, tree.Tree{}, turned(api.Hash{}, i), api.Hash{}, false)
	}
	gets(t, tree.Tree{}, api.Hash{}, api.Hash{}, false)
}

// P9.1: noughts are a key and a value like others.
func TestNoughts(t *testing.T) {
	one := tree.Tree{}.Put(api.Hash{}, api.Hash{})
	look(t, one, 0, pairs{{}: {}})
	look(t, one.Put(api.Hash{31: 1}, api.Hash{}), 0, pairs{{}: {}, {31: 1}: {}})
}

// P9.1 and P9.2: two keys that are unlike in one bit alone, each bit; each order; each node.
func TestEachBit(t *testing.T) {
	base := noise(rand.New(rand.NewSource(91)))
	for i := range 256 {
		other := turned(base, i)
		have := pairs{base: {1}, other: {2}}
		look(t, fill(tree.Tree{}, have, base, other), 0, have)
		look(t, fill(tree.Tree{}, have, other, base), 0, have)
	}
}

// P9.1: Put by Put, of keys of each kind, new ones and such as are there; each tree ahead of it stays as it was.
func TestPut(t *testing.T) {
	for kind := range families {
		rnd := rand.New(rand.NewSource(int64(920 + kind)))
		next := family(kind, rnd)
		trees, have := []tree.Tree{{}}, []pairs{{}}
		for range 60 {
			// Not always of the newest: two trees may come of one.
			i := max(rnd.Intn(len(trees)), rnd.Intn(len(trees)))
			k, v := next(), noise(rnd)
			more := maps.Clone(have[i])
			more[k] = v
			trees, have = append(trees, trees[i].Put(k, v)), append(have, more)
			holds(t, trees[len(trees)-1], 0, more)
		}
		for i := range trees {
			look(t, trees[i], 0, have[i])
		}
	}
}

// P9.1: a pair takes the place of the one with its key: another value, the same one, and the first again.
func TestReplaced(t *testing.T) {
	for kind := range families {
		rnd := rand.New(rand.NewSource(int64(930 + kind)))
		next := family(kind, rnd)
		have := pairs{}
		for range 20 {
			have[next()] = noise(rnd)
		}
		tr := treeOf(have)
		for k, v := range have {
			other := maps.Clone(have)
			other[k] = noise(rnd)
			changed := tr.Put(k, other[k])
			holds(t, changed, 0, other)
			holds(t, changed.Put(k, v), 0, have)
			holds(t, tr.Put(k, v), 0, have)
		}
		holds(t, tr, 0, have)
	}
}

// P9.1: whoever ranges over the pairs may leave at any of them, and begin anew, within another range too.
func TestAllLeft(t *testing.T) {
	rnd := rand.New(rand.NewSource(94))
	have := pairs{}
	for range 12 {
		have[noise(rnd)] = noise(rnd)
	}
	whole := treeOf(have)
	side, _, _ := whole.Put(api.Hash{}, api.Hash{}).Put(api.Hash{0xff}, api.Hash{}).Sides()
	for _, tr := range []tree.Tree{whole, side, {}} {
		var keys []api.Hash
		for k := range tr.All() {
			keys = append(keys, k)
		}
		all := tr.All()
		for last := range keys {
			n := 0
			for k := range all {
				if k != keys[n] {
					t.Errorf("the key %d: %x", n, k)
				}
				if n == last {
					break
				}
				n++
			}
			if n != last {
				t.Errorf("left at %d, not %d", n, last)
			}
		}
		n := 0
		for range all {
			for range all {
				n++
			}
		}
		if n != len(keys)*len(keys) {
			t.Errorf("a range within a range: %d of %d", n, len(keys))
		}
	}
}

// P9.1: All tells the pairs of its own tree, whatever is put into it while they are told.
func TestAllWhilePut(t *testing.T) {
	have := pairs{{1}: {1}, {2}: {2}, {0x82}: {3}}
	tr := treeOf(have)
	n, more := 0, tr
	for k := range tr.All() {
		n++
		k[31] = 1
		more = more.Put(k, api.Hash{9})
	}
	if n != 3 || more.Len() != 6 {
		t.Errorf("%d told, %d then", n, more.Len())
	}
	look(t, tr, 0, have)
}

// P9.1: many.
func TestMany(t *testing.T) {
	n := 20000
	if testing.Short() {
		n = 2000
	}
	rnd := rand.New(rand.NewSource(95))
	have := pairs{}
	var tr tree.Tree
	for range n {
		k, v := noise(rnd), noise(rnd)
		have[k] = v
		tr = tr.Put(k, v)
	}
	holds(t, tr, 0, have)
}

// FuzzTree holds what was put against a map; 3 bytes a pair, of which one says where the key turns from its neighbours.
func FuzzTree(f *testing.F) {
	f.Add([]byte{})
	f.Add([]byte{0, 0, 0, 0, 255, 1, 0, 0, 2})
	f.Add([]byte{0, 7, 1, 9, 8, 2, 0, 7, 3, 1, 1, 4})
	f.Fuzz(func(t *testing.T, b []byte) {
		have := pairs{}
		var tr tree.Tree
		var k api.Hash
		for ; len(b) >= 3 && len(have) < 40; b = b[3:] {
			k = turned(turned(k, int(b[0])), int(b[1]))
			have[k] = api.Hash{b[2]}
			tr = tr.Put(k, api.Hash{b[2]})
		}
		look(t, tr, 0, have)
		if treeOf(have).Root() != tr.Root() {
			t.Error("the root hangs on how the pairs came")
		}
	})
}

func BenchmarkPut(b *testing.B) {
	rnd := rand.New(rand.NewSource(96))
	var tr tree.Tree
	for range 10000 {
		tr = tr.Put(noise(rnd), api.Hash{})
	}
	for b.Loop() {
		tr.Put(noise(rnd), api.Hash{})
	}
}

func BenchmarkPutDeep(b *testing.B) {
	tr := tree.Tree{}.Put(api.Hash{}, api.Hash{})
	for b.Loop() {
		tr.Put(api.Hash{31: 1}, api.Hash{})
	}
}
