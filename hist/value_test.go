package hist_test

import (
	"math/rand"
	"slices"
	"testing"

	"witan/api"
	"witan/hist"
)

// values asks for the value of keys, which is to be as the chapter's words have it, and to leave them as they are.
func values(t *testing.T, keys ...api.Hash) api.Hash {
	t.Helper()
	before := slices.Clone(keys)
	got := hist.Value(keys...)
	if want := valueOf(before); got != want {
		t.Errorf("of %d keys: %x, not %x", len(keys), got, want)
	}
	if !slices.Equal(keys, before) {
		t.Errorf("of %d keys: they changed", len(keys))
	}
	return got
}

// P11.1: values that this test has written out.
func TestValuesWrittenOut(t *testing.T) {
	var bytes []api.Hash
	for i := range byte(api.MaxKeys) {
		var k api.Hash
		for j := range k {
			k[j] = i
		}
		bytes = append(bytes, k)
	}
	for _, x := range []struct {
		keys []api.Hash
		want string
	}{
		{nil, "c6c0aa07f27493d2f2e5cff56c890a353a20086d6c25ec825128e12ae752b2d9"},
		{[]api.Hash{{7}}, "532575d1923e20261164153936f8f2c796db2912b2d168da9b7c18c72bf11f45"},
		{[]api.Hash{{7}, {8}}, "9b8729f8999eb61aff75f34ef2d85be1e9c9d7648b31fd4dc724ef3d2bcfe8d4"},
		{[]api.Hash{{8}, {7}}, "634e05e5a0fd1825d42d1424594055349e758223afaf1cb5dda2b5710babb844"},
		{bytes, "88cedb8ff390b991ad04534c4158c51e854dd5c2a9a4a5a2bf6adf482dc2f3e6"},
	} {
		if got := values(t, x.keys...); got != unhex(t, x.want) {
			t.Errorf("of %d keys: %x", len(x.keys), got)
		}
	}
}

// P11.1: values of histories of all lengths, and of more keys than a history has.
func TestValues(t *testing.T) {
	rnd := rand.New(rand.NewSource(115))
	keys := hashes(rnd, 300)
	for n := range keys {
		values(t, keys[:n]...)
	}
	for n := range 70 {
		values(t, make([]api.Hash, n)...)
	}
	if hist.Value() != hist.Value([]api.Hash{}...) || hist.Value() != hist.Value(keys[:0]...) {
		t.Error("no keys aren't one")
	}
	if !testing.Short() {
		values(t, make([]api.Hash, 1<<20)...)
	}
}

// P11.4: no two histories of few keys have one value, though one begins the other, or says the same in another order.
func TestUnlikeValues(t *testing.T) {
	met := map[api.Hash][]api.Hash{}
	see := func(keys []api.Hash) {
		v := values(t, keys...)
		if other, ok := met[v]; ok {
			t.Errorf("%x and %x have one value", keys, other)
		}
		met[v] = slices.Clone(keys)
	}
	few := []api.Hash{{}, {1}, {31: 1}, {0: 3, 31: 2}}
	level := [][]api.Hash{nil}
	for range 5 {
		var longer [][]api.Hash
		for _, keys := range level {
			see(keys)
			for _, k := range few {
				longer = append(longer, append(slices.Clone(keys), k))
			}
		}
		level = longer
	}
}

// P11.4: each bit of each key, each pair of places changed, each key left out or twice: another value.
func TestEachKeyCounts(t *testing.T) {
	rnd := rand.New(rand.NewSource(116))
	for _, n := range []int{1, 2, 5, api.MaxKeys} {
		keys := hashes(rnd, n)
		v := values(t, keys...)
		unlike := func(what string, other []api.Hash) {
			if hist.Value(other...) == v {
				t.Errorf("of %d keys: %s counts for nothing", n, what)
			}
		}
		for i := range n {
			for _, bit := range []int{0, 7, 8, 100, 255} {
				other := slices.Clone(keys)
				other[i][bit/8] ^= 1 << (bit % 8)
				unlike("a bit", other)
			}
			unlike("a key that isn't there", slices.Delete(slices.Clone(keys), i, i+1))
			unlike("a key that is there twice", slices.Insert(slices.Clone(keys), i, keys[i]))
			unlike("a key of noughts", slices.Insert(slices.Clone(keys), i, api.Hash{}))
			for j := range i {
				other := slices.Clone(keys)
				other[i], other[j] = other[j], other[i]
				unlike("the order", other)
			}
		}
		unlike("a key of noughts at the end", append(slices.Clone(keys), api.Hash{}))
		unlike("the value as a key", append(slices.Clone(keys), v))
		unlike("the value as the one key", []api.Hash{v})
	}
}
