package dir_test

import (
	"maps"
	"math"
	"math/rand"
	"slices"
	"testing"

	"witan/api"
	"witan/dir"
)

// P12.1, P12.2: roots that this test has written out.
func TestRootsWrittenOut(t *testing.T) {
	var whole []api.Hash
	for i := range byte(api.MaxKeys) {
		whole = append(whole, api.Hash{i})
	}
	a, b, c := api.Hash{0x10}, api.Hash{0x30}, api.Hash{0x90}
	ofA, ofB, ofC := []api.Hash{{7}}, []api.Hash{{7}, {8}}, []api.Hash{{9}, {9}, {}}
	for _, x := range []struct {
		has  all
		root string
	}{
		{nil, "0000000000000000000000000000000000000000000000000000000000000000"},
		{all{a: ofA}, "0619b8e4b9cf2bd0783b81562f3132eac4f2861cb4a3768a28ec08c332d1b821"},
		{all{b: ofB}, "750ccde0a682082a08c6e611ecbf32213e20cc770fe810cce60a64448f0586c5"},
		{all{a: ofA, b: ofB}, "f71569ec6c846012f4b0894232aeec3fe56845f6648b9888b31816e8e3fbc2b4"},
		{all{a: ofA, b: ofB, c: ofC}, "18147e1724d616073c1f050243341ec9261dfdc3221b3e3861b1eb6c21dac3d3"},
		{all{{0xff}: whole}, "14b41f444b802a9f618087b140104301d3365b5fe0f85e0500f0ba64ba78a234"},
	} {
		d := builds(t, 1, x.has)
		if d.Root() != unhex(t, x.root) {
			t.Errorf("of %d: %x", len(x.has), d.Root())
		}
		holds(t, d, 1, x.has)
	}
}

// P12.2: an epoch below 0, or a history of more than MaxKeys keys, wherever it stands, is ErrArg, and beside it there is the zero directory.
func TestBuildErrors(t *testing.T) {
	rnd := rand.New(rand.NewSource(1210))
	refuses := func(epoch int, a all) {
		t.Helper()
		d, err := dir.Build(epoch, a)
		if err != api.ErrArg {
			t.Errorf("epoch %d, %d histories: %v", epoch, len(a), err)
		}
		holds(t, d, 0, nil)
	}
	fine := all{{1}: hashes(rnd, 3)}
	for _, epoch := range []int{-1, -2, -64, math.MinInt, math.MinInt + 1, -1 << 32} {
		refuses(epoch, nil)
		refuses(epoch, fine)
		refuses(epoch, all{{}: make([]api.Hash, 65)})
	}
	for _, n := range []int{api.MaxKeys + 1, api.MaxKeys + 2, 2 * api.MaxKeys, 257, 1 << 16, 1 << 20} {
		for _, epoch := range []int{0, 1, math.MaxInt} {
			refuses(epoch, all{{1}: make([]api.Hash, n)})
		}
	}
	many := some(rnd, 30)
	many[api.Hash{2}] = hashes(rnd, api.MaxKeys)
	many[api.Hash{3}] = nil
	for id := range many {
		one := maps.Clone(many)
		one[id] = hashes(rnd, api.MaxKeys+1)
		refuses(7, one)
	}
	delete(many, api.Hash{3})
	holds(t, builds(t, 7, many), 7, many)
}

// P12.2: epochs and histories of all kinds.
func TestBuild(t *testing.T) {
	rnd := rand.New(rand.NewSource(1211))
	for _, epoch := range []int{0, 1, 2, 255, 1 << 16, 1 << 32, math.MaxInt} {
		holds(t, builds(t, epoch, nil), epoch, nil)
		holds(t, builds(t, epoch, all{}), epoch, nil)
		want := some(rnd, 9)
		holds(t, builds(t, epoch, want), epoch, want)
	}
	for n := range api.MaxKeys {
		want := all{noise(rnd): hashes(rnd, n+1), {}: make([]api.Hash, n+1)}
		holds(t, builds(t, n, want), n, want)
	}
	for bit := range 256 {
		base := noise(rnd)
		want := all{base: hashes(rnd, 1), turned(base, bit): hashes(rnd, 2)}
		holds(t, builds(t, 1, want), 1, want)
	}
}

// P12.2: histories without keys are passed over: such an identity isn't there.
func TestBuildWithoutKeys(t *testing.T) {
	rnd := rand.New(rand.NewSource(1212))
	for _, none := range [][]api.Hash{nil, {}, make([]api.Hash, 0, 9)} {
		holds(t, builds(t, 3, all{{1}: none}), 3, nil)
		holds(t, builds(t, 3, all{{1}: none, {}: none}), 3, nil)
		want := some(rnd, 9)
		want[api.Hash{5}] = hashes(rnd, 1)
		given := maps.Clone(want)
		for range 5 {
			given[noise(rnd)] = none
		}
		given[api.Hash{5, 1}] = none
		d := builds(t, 4, given)
		holds(t, d, 4, want)
		if d.Root() != builds(t, 0, want).Root() {
			t.Error("what has no keys is in the root")
		}
	}
	u := made(10, 1, api.Hash{1}) // it is there as soon as it has a key
	d := builds(t, 3, all{u.Id: nil})
	holds(t, d.Apply(u), 4, all{u.Id: {u.Key}})
}

// P12.2: what is built is the directory that came by batches, and goes on as that one does; whose the keys are isn't asked.
func TestBuildGoesOn(t *testing.T) {
	us, vs := history(11, api.MaxKeys), history(12, 3)
	want := all{}.apply(us...).apply(vs[:2]...)
	d := dir.Dir{}.Apply(us...).Apply(vs[:2]...)
	e := builds(t, d.Epoch(), maps.Collect(d.All()))
	holds(t, d, 2, want)
	holds(t, e, 2, want)
	more := slices.Concat(vs, us, history(13, 1))
	holds(t, d.Apply(more...), 3, want.apply(more...))
	holds(t, e.Apply(more...), 3, want.apply(more...))
	holds(t, e, 2, want)

	keys := []api.Hash{{3}, {2}} // of which its owner signed none
	f := builds(t, 9, all{vs[0].Id: keys, {}: {{1}}})
	holds(t, f.Apply(vs...), 10, all{vs[0].Id: append(slices.Clone(keys), vs[2].Key), {}: {{1}}})
	last := made(12, api.MaxKeys, api.Hash{0xaa})
	g := builds(t, 0, all{vs[0].Id: make([]api.Hash, api.MaxKeys-1)})
	h := g.Apply(last, made(12, api.MaxKeys+1, api.Hash{0xbb}))
	holds(t, h, 1, all{vs[0].Id: append(make([]api.Hash, api.MaxKeys-1), last.Key)})
}

// P12.2: what is handed in stays as it is, its spare room too, and a directory doesn't hang on it later.
func TestBuildHandedIn(t *testing.T) {
	u := made(14, 3, api.Hash{1})
	whole := hashes(rand.New(rand.NewSource(1213)), 40)
	before := slices.Clone(whole)
	given := all{u.Id: whole[:2], {1}: whole[10:13], {2}: whole[10:20], {3}: nil}
	want := all{u.Id: before[:2], {1}: before[10:13], {2}: before[10:20]}
	d := builds(t, 6, given)
	e := d.Apply(u)
	if !slices.Equal(whole, before) || len(given) != 4 || len(given[u.Id]) != 2 || given[api.Hash{3}] != nil {
		t.Error("what was handed in changed")
	}
	holds(t, d, 6, want)
	clear(whole)
	given[api.Hash{4}] = before[:1]
	given[u.Id] = before[:5]
	delete(given, api.Hash{1})
	holds(t, d, 6, want)
	holds(t, e, 7, want.apply(u))
	clear(given)
	holds(t, d, 6, want)
	for _, keys := range d.All() {
		clear(keys[:cap(keys)])
	}
	for id := range want {
		keys := d.Keys(id)
		clear(keys[:cap(keys)])
	}
	holds(t, d, 6, want)
}

// P12.2: many identities; of near ones, too, whose tree is deep.
func TestBuildMany(t *testing.T) {
	n := 1 << 16
	if testing.Short() {
		n = 1 << 10
	}
	rnd := rand.New(rand.NewSource(1214))
	want := all{}
	for i := range n {
		id := noise(rnd)
		if i%64 == 0 {
			id = api.Hash{30: byte(i >> 14), 31: byte(i >> 6)}
		}
		want[id] = []api.Hash{{byte(i), byte(i >> 8)}}
	}
	d := builds(t, 1, want)
	p := want.pairs()
	if root := rootOf(p, 0); d.Root() != root || d.Tree().Len() != len(want) {
		t.Fatalf("the root %x, not %x, of %d", d.Root(), root, d.Tree().Len())
	}
	tells(t, d, want)
	for _, id := range []api.Hash{{}, {31: 1}, noise(rnd), p.rising()[n/2]} {
		rights(t, d.Root(), id, d.Answer(id), api.OK)
		if !slices.Equal(d.Keys(id), want[id]) {
			t.Errorf("Keys of %x: %x", id, d.Keys(id))
		}
	}
}
