package dir_test

import (
	"maps"
	"math"
	"math/rand"
	"slices"
	"testing"

	"witan/api"
	"witan/dir"
	"witan/hist"
)

// The chapter's examples.
func TestExamples(t *testing.T) {
	u, v := hist.Make(api.Hash{1}, 1, api.Hash{7}), hist.Make(api.Hash{1}, 2, api.Hash{8})
	d := dir.Dir{}.Apply(u, v)
	if d.Epoch() != 1 || !slices.Equal(d.Keys(u.Id), []api.Hash{{7}, {8}}) {
		t.Errorf("epoch %d, keys %x", d.Epoch(), d.Keys(u.Id))
	}
	e := d.Apply(u, v)
	if e.Epoch() != 2 || e.Root() != d.Root() {
		t.Errorf("epoch %d, root %x, not 2, %x", e.Epoch(), e.Root(), d.Root())
	}
	other := hist.Make(api.Hash{2}, 1, api.Hash{}).Id
	a := e.Answer(other)
	if len(a.Keys) != 0 {
		t.Errorf("another identity: %x", a.Keys)
	}
	rights(t, e.Root(), other, a, api.OK)
}

// P12.1: the zero directory is at epoch 0, and has nothing.
func TestZero(t *testing.T) {
	var d dir.Dir
	holds(t, d, 0, nil)
	if d.Root() != (api.Hash{}) || d.Tree().Len() != 0 {
		t.Errorf("the root %x", d.Root())
	}
	holds(t, d.Apply(), 1, nil)
	holds(t, d.Apply().Apply([]api.Update{}...), 2, nil)
	holds(t, d.Apply(api.Update{}), 1, nil)
	holds(t, d, 0, nil)
}

// P12.1: each update in order, as the history is then; all that are not signed, or not the next one, are passed over.
func TestApply(t *testing.T) {
	u := history(1, 4)
	v := history(2, 2)
	fork := made(1, 1, api.Hash{0xf0})
	unsigned := u[0]
	unsigned.Sig[5] ^= 8
	stolen := v[0]
	stolen.Id = u[0].Id
	for _, x := range []struct {
		name  string
		batch []api.Update
		u, v  []api.Hash
	}{
		{"none", nil, nil, nil},
		{"one", u[:1], []api.Hash{u[0].Key}, nil},
		{"all in order", u, []api.Hash{u[0].Key, u[1].Key, u[2].Key, u[3].Key}, nil},
		{"more than MaxBatch", slices.Concat(u, v), []api.Hash{u[0].Key, u[1].Key, u[2].Key, u[3].Key}, []api.Hash{v[0].Key, v[1].Key}},
		{"two in turn", []api.Update{v[0], u[0], v[1], u[1]}, []api.Hash{u[0].Key, u[1].Key}, []api.Hash{v[0].Key, v[1].Key}},
		{"the second one first", []api.Update{u[1], u[0]}, []api.Hash{u[0].Key}, nil},
		{"the second one first, and again", []api.Update{u[1], u[0], u[1]}, []api.Hash{u[0].Key, u[1].Key}, nil},
		{"the second one alone", u[1:2], nil, nil},
		{"without the second one", []api.Update{u[0], u[2]}, []api.Hash{u[0].Key}, nil},
		{"one twice", []api.Update{u[0], u[0]}, []api.Hash{u[0].Key}, nil},
		{"two first ones", []api.Update{fork, u[0]}, []api.Hash{fork.Key}, nil},
		{"two first ones, the other way round", []api.Update{u[0], fork}, []api.Hash{u[0].Key}, nil},
		{"two first ones, and the second one", []api.Update{fork, u[0], u[1]}, []api.Hash{fork.Key, u[1].Key}, nil},
		{"an unsigned one", []api.Update{unsigned}, nil, nil},
		{"an unsigned one ahead", []api.Update{unsigned, v[0], u[0]}, []api.Hash{u[0].Key}, []api.Hash{v[0].Key}},
		{"an unsigned one between", []api.Update{u[0], unsigned, u[1]}, []api.Hash{u[0].Key, u[1].Key}, nil},
		{"another's", []api.Update{stolen, v[0]}, nil, []api.Hash{v[0].Key}},
		{"of noughts", []api.Update{{}, u[0], {}}, []api.Hash{u[0].Key}, nil},
	} {
		t.Run(x.name, func(t *testing.T) {
			want := all{}
			if x.u != nil {
				want[u[0].Id] = x.u
			}
			if x.v != nil {
				want[v[0].Id] = x.v
			}
			if !maps.EqualFunc(want, all{}.apply(x.batch...), slices.Equal) {
				t.Fatal("the test is wrong")
			}
			d := dir.Dir{}.Apply(x.batch...)
			holds(t, d, 1, want)
			holds(t, d.Apply(x.batch...), 2, want.apply(x.batch...))
			holds(t, d, 1, want)
		})
	}
}

// P12.1: an update with any bit turned, or another version, is passed over; an epoch passes all the same.
func TestApplyTurned(t *testing.T) {
	us := history(3, 2)
	d := dir.Dir{}.Apply(us[0])
	want := all{us[0].Id: {us[0].Key}}
	over := func(u api.Update) {
		t.Helper()
		e := d.Apply(u)
		if e.Epoch() != 2 || e.Root() != d.Root() || len(e.Keys(u.Id)) != len(want[u.Id]) || e.Tree().Len() != 1 {
			t.Errorf("the version %d of %x with %x is taken", u.Version, u.Id, u.Key)
		}
	}
	for bit := range 512 {
		u := us[1]
		u.Sig[bit/8] ^= 1 << (bit % 8)
		over(u)
		u = us[1]
		u.Key = turned(u.Key, bit%256)
		over(u)
		u = us[1]
		u.Id = turned(u.Id, bit%256)
		over(u)
	}
	for _, v := range []int{-1, 0, 1, 3, 64, 65, 2 + 1<<32, 2 + math.MinInt, math.MaxInt, math.MinInt} {
		u := us[1]
		u.Version = v
		over(u)
		over(made(3, v, us[1].Key))
	}
	holds(t, d, 1, want)
	holds(t, d.Apply(us[1]), 2, want.apply(us[1]))
}

// P12.1: batches of all kinds, one behind the other and beside one another; each directory stays as it was, whatever came of it.
func TestApplyAny(t *testing.T) {
	rnd := rand.New(rand.NewSource(1201))
	var us []api.Update
	for owner := range byte(5) {
		for v := range 6 {
			for key := range byte(2) {
				us = append(us, made(owner, v, api.Hash{owner, byte(v), key}))
			}
		}
	}
	type point struct {
		d     dir.Dir
		epoch int
		has   all
	}
	points := []point{{}}
	for range 150 {
		from := points[len(points)-1]
		if rnd.Intn(4) == 0 {
			from = points[rnd.Intn(len(points))]
		}
		batch := make([]api.Update, rnd.Intn(2*api.MaxBatch))
		for i := range batch {
			batch[i] = us[rnd.Intn(len(us))]
			if rnd.Intn(8) == 0 {
				batch[i].Sig[rnd.Intn(64)]++
			}
		}
		to := point{from.d.Apply(batch...), from.epoch + 1, from.has.apply(batch...)}
		holds(t, to.d, to.epoch, to.has)
		points = append(points, to)
	}
	for _, p := range points {
		holds(t, p.d, p.epoch, p.has)
	}
}

// P12.1: no history has more than MaxKeys keys.
func TestWholeHistory(t *testing.T) {
	us := history(4, api.MaxKeys+1)
	want := all{us[0].Id: nil}
	for _, u := range us[:api.MaxKeys] {
		want[u.Id] = append(want[u.Id], u.Key)
	}
	one := dir.Dir{}.Apply(us...)
	holds(t, one, 1, want)
	d := dir.Dir{}
	for i, u := range us {
		d = d.Apply(u)
		if n := len(d.Keys(u.Id)); n != min(i+1, api.MaxKeys) {
			t.Errorf("the version %d: %d keys", u.Version, n)
		}
	}
	holds(t, d, len(us), want)
	holds(t, one.Apply(us...), 2, want)
}

// P12.1: which keys an identity has isn't asked: the same one again, noughts, itself.
func TestAnyKeys(t *testing.T) {
	id := made(5, 1, api.Hash{}).Id
	keys := []api.Hash{{}, {}, id, {9}, {9}}
	var us []api.Update
	want := all{}
	for i, k := range keys {
		us = append(us, made(5, i+1, k))
		want = want.apply(us[i])
	}
	if !slices.Equal(want[id], keys) {
		t.Fatal("the test is wrong")
	}
	holds(t, dir.Dir{}.Apply(us...), 1, want)
}

// P12.1: as many updates as may be handed in, of which the first one alone is the next one.
func TestApplyMany(t *testing.T) {
	n := 1 << 20
	if testing.Short() {
		n = 1 << 12
	}
	u := made(6, 1, api.Hash{1})
	batch := make([]api.Update, n)
	for i := range batch {
		if i%2 == 1 {
			batch[i] = u
		}
	}
	holds(t, dir.Dir{}.Apply(batch...), 1, all{u.Id: {u.Key}})
}

// P12.1: what is handed in stays as it is, and a directory doesn't hang on it later; nor on its answers.
func TestApplyHandedIn(t *testing.T) {
	us := slices.Concat(history(7, 3), history(8, 2))
	want := all{}.apply(us[:4]...)
	batch := slices.Clone(us)
	d := dir.Dir{}.Apply(batch[:4]...)
	if !slices.Equal(batch, us) {
		t.Error("the batch changed")
	}
	clear(batch)
	holds(t, d, 1, want)
	id := us[0].Id
	spoil := func(keys []api.Hash) { clear(keys[:cap(keys)]) }
	e := d.Apply(made(7, 4, api.Hash{4}))
	for range 2 {
		spoil(d.Keys(id))
		spoil(append(d.Keys(id), api.Hash{0xee}))
		spoil(e.Keys(id))
		for _, keys := range d.All() {
			spoil(append(keys, api.Hash{0xee}))
			spoil(keys)
		}
		a := d.Answer(id)
		spoil(append(a.Keys, api.Hash{0xee}))
		spoil(a.Keys)
		clear(a.Proof[:cap(a.Proof)])
	}
	holds(t, d, 1, want)
	holds(t, e, 2, want.apply(made(7, 4, api.Hash{4})))
	d.Tree().Put(id, api.Hash{}) // a tree stays as it was
	holds(t, d, 1, want)
}

// P12.1: All is left early, ranged over within itself, and tells what the directory was, though others came of it.
func TestAll(t *testing.T) {
	rnd := rand.New(rand.NewSource(1202))
	want := all{}
	for range 40 {
		want[noise(rnd)] = hashes(rnd, 1+rnd.Intn(3))
	}
	d := builds(t, 5, want)
	ids := want.pairs().rising()
	seq := d.All()
	d.Apply(history(9, 2)...)
	for n := range len(ids) + 1 {
		var told []api.Hash
		for id := range seq {
			if told = append(told, id); len(told) >= n {
				break
			}
		}
		if !slices.Equal(told, ids[:max(n, 1)]) {
			t.Errorf("left behind %d: %d", n, len(told))
		}
	}
	n := 0
	for id := range seq {
		for other, keys := range seq {
			if n++; other == id && !slices.Equal(keys, want[id]) {
				t.Errorf("%x: %x", id, keys)
			}
		}
	}
	if n != len(ids)*len(ids) {
		t.Errorf("%d within one another, not %d", n, len(ids)*len(ids))
	}
	for id, keys := range (dir.Dir{}).All() {
		t.Errorf("of none: %x, %x", id, keys)
	}
}
