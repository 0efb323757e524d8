package dir_test

import (
	"bytes"
	"maps"
	"math/rand"
	"slices"
	"testing"

	"witan/api"
	"witan/dir"
	"witan/tree"
	"witan/witness"
)

// P12.3: layer 10's Parse's error of the proof is told, ahead of all others.
func TestRightParses(t *testing.T) {
	rnd := rand.New(rand.NewSource(1220))
	want := some(rnd, 9)
	want[api.Hash{1}], want[api.Hash{0x81}] = hashes(rnd, 2), hashes(rnd, 1)
	d := builds(t, 1, want)
	a := d.Answer(api.Hash{1})
	for _, root := range []api.Hash{d.Root(), {}, {7}} {
		for _, id := range []api.Hash{{1}, {0x81}, {2}} {
			for _, keys := range [][]api.Hash{nil, a.Keys, {{3}}} {
				for n := range a.Proof {
					rights(t, root, id, api.Answer{Keys: keys, Proof: a.Proof[:n]}, api.ErrShort)
				}
				for _, more := range []int{1, 33, 100} {
					rights(t, root, id, api.Answer{Keys: keys, Proof: append(slices.Clone(a.Proof), make([]byte, more)...)}, api.ErrTrail)
				}
				for _, b := range [][]byte{{4}, {0xff}, {2, 0, 0}, slices.Concat([]byte{2}, leafOf(api.Hash{1}, api.Hash{}), []byte{0}), bytes.Repeat([]byte{2}, 257)} {
					rights(t, root, id, api.Answer{Keys: keys, Proof: b}, api.ErrForm)
				}
			}
		}
	}
	rights(t, api.Hash{}, api.Hash{}, api.Answer{}, api.ErrShort)
	rights(t, api.Hash{}, api.Hash{}, api.Answer{Proof: []byte{0, 0}}, api.ErrTrail)
	rights(t, api.Hash{}, api.Hash{}, api.Answer{Proof: make([]byte, 1<<20)}, api.ErrTrail)
}

// P12.3: each of the errors, in the order in which they are told.
func TestRight(t *testing.T) {
	a, b, c := api.Hash{0x10}, api.Hash{0x30}, api.Hash{0x90}
	ofA, ofB := []api.Hash{{7}, {8}, {9}}, []api.Hash{{6}}
	d := builds(t, 3, all{a: ofA, b: ofB, c: {{5}}})
	root := d.Root()
	proof := func(keys ...api.Hash) []byte { return witness.Cut(d.Tree(), keys...).Bytes() }
	away, beside := api.Hash{0x50}, api.Hash{0x11} // to an empty node; to a's leaf
	for _, x := range []struct {
		name     string
		root, id api.Hash
		keys     []api.Hash
		proof    []byte
		want     api.Errno
	}{
		{"as it is", root, a, ofA, proof(a), api.OK},
		{"as it is, the other", root, b, ofB, proof(b), api.OK},
		{"none, to an empty node", root, away, nil, proof(away), api.OK},
		{"none, to another's leaf", root, beside, nil, proof(beside), api.OK},
		{"an empty list", root, away, []api.Hash{}, proof(away), api.OK},
		{"cut for more", root, a, ofA, proof(a, b, c, away), api.OK},
		{"cut for a neighbour", root, beside, nil, proof(a), api.OK},
		{"cut for a neighbour, that is there", root, a, ofA, proof(beside), api.OK},
		{"an empty one shown by another's", root, away, nil, proof(a), api.OK},

		{"another root", api.Hash{1}, a, ofA, proof(a), api.ErrRoot},
		{"a bit of the root turned", turned(root, 255), a, ofA, proof(a), api.ErrRoot},
		{"the root of none", api.Hash{}, a, ofA, proof(a), api.ErrRoot},
		{"the empty part", root, a, nil, []byte{0}, api.ErrRoot},
		{"another root, and it doesn't tell", api.Hash{1}, a, ofA, proof(c), api.ErrRoot},
		{"another root, and other keys", api.Hash{1}, a, ofB, proof(a), api.ErrRoot},

		{"it doesn't tell of it", root, a, ofA, proof(c), api.ErrUnknown},
		{"nor of none", root, a, nil, proof(c), api.ErrUnknown},
		{"nor of a neighbour of what is hidden", root, beside, nil, proof(c), api.ErrUnknown},
		{"hidden beside it", root, b, ofB, proof(a), api.ErrUnknown},
		{"all hidden", root, a, ofA, proof(), api.ErrUnknown},
		{"all hidden, no keys", root, away, nil, proof(), api.ErrUnknown},
		{"noughts hidden", api.Hash{}, a, nil, hides(api.Hash{}), api.ErrUnknown},
		{"noughts hidden, keys", api.Hash{}, a, ofA, hides(api.Hash{}), api.ErrUnknown},

		{"none of those that it has", root, a, nil, proof(a), api.ErrRoot},
		{"an empty list of those that it has", root, a, []api.Hash{}, proof(a), api.ErrRoot},
		{"fewer", root, a, ofA[:2], proof(a), api.ErrRoot},
		{"without the first one", root, a, ofA[1:], proof(a), api.ErrRoot},
		{"more", root, a, append(slices.Clone(ofA), api.Hash{}), proof(a), api.ErrRoot},
		{"another order", root, a, []api.Hash{{8}, {7}, {9}}, proof(a), api.ErrRoot},
		{"another's", root, a, ofB, proof(a), api.ErrRoot},
		{"keys of one that isn't there", root, away, ofA, proof(away), api.ErrRoot},
		{"keys of another's leaf", root, beside, ofA, proof(a), api.ErrRoot},
		{"a key of noughts of one that isn't there", root, away, []api.Hash{{}}, proof(away), api.ErrRoot},
		{"the value as the one key", root, a, []api.Hash{valueOf(ofA...)}, proof(a), api.ErrRoot},
	} {
		t.Run(x.name, func(t *testing.T) { rights(t, x.root, x.id, api.Answer{Keys: x.keys, Proof: x.proof}, x.want) })
	}
}

// P12.3: what the tree tells is held against the keys' value alone, and no keys against nothing: trees that no directory has.
func TestRightOfOtherTrees(t *testing.T) {
	id, other := api.Hash{1}, api.Hash{2}
	keys := hashes(rand.New(rand.NewSource(1221)), 99)
	for _, x := range []struct {
		value api.Hash
		keys  []api.Hash
		want  api.Errno
	}{
		{valueOf(), nil, api.ErrRoot}, // it is there, with the value of no keys
		{api.Hash{}, nil, api.ErrRoot},
		{api.Hash{}, []api.Hash{{}}, api.ErrRoot},
		{valueOf(keys[:2]...), keys[:2], api.OK},
		{valueOf(keys[:2]...), nil, api.ErrRoot},
		{valueOf(keys[:64]...), keys[:64], api.OK},
		{valueOf(keys...), keys, api.OK}, // how many there are isn't asked
		{valueOf(keys...), keys[:64], api.ErrRoot},
		{keys[0], keys[:1], api.ErrRoot},
		{digest(3, api.Hash{}, keys[0]), keys[:1], api.ErrRoot},
	} {
		one := tree.Tree{}.Put(id, x.value)
		rights(t, one.Root(), id, api.Answer{Keys: x.keys, Proof: leafOf(id, x.value)}, x.want)
		two := one.Put(other, valueOf(keys[5]))
		rights(t, two.Root(), id, api.Answer{Keys: x.keys, Proof: witness.Cut(two, id).Bytes()}, x.want)
	}
	many := make([]api.Hash, 1<<18)
	one := tree.Tree{}.Put(id, valueOf(many...))
	rights(t, one.Root(), id, api.Answer{Keys: many, Proof: leafOf(id, valueOf(many...))}, api.OK)
	rights(t, one.Root(), id, api.Answer{Keys: many[1:], Proof: leafOf(id, valueOf(many...))}, api.ErrRoot)
}

// P12.4: with any bit of the proof, of a key or of the root turned an answer isn't right; for an identity with a bit turned it is right only if it has these keys.
func TestRightTurned(t *testing.T) {
	rnd := rand.New(rand.NewSource(1222))
	want := some(rnd, 12)
	id := noise(rnd)
	want[id] = hashes(rnd, 3)
	d := builds(t, 2, want)
	for _, id := range []api.Hash{id, turned(id, 255), turned(id, 0), noise(rnd)} {
		a := d.Answer(id)
		for i := range 8 * len(a.Proof) {
			x := copied(a)
			x.Proof[i/8] ^= 1 << (i % 8)
			if err := dir.Right(d.Root(), id, x); err == api.OK {
				t.Errorf("the bit %d of the proof counts for nothing", i)
			}
		}
		for i := range a.Keys {
			for bit := range 256 {
				x := copied(a)
				x.Keys[i] = turned(x.Keys[i], bit)
				rights(t, d.Root(), id, x, api.ErrRoot)
			}
		}
		for bit := range 256 {
			rights(t, turned(d.Root(), bit), id, a, api.ErrRoot)
			keeps(t, d, turned(id, bit), a)
		}
	}
}

// keeps asks whether an answer is right for a directory: only with the keys that this has.
func keeps(t *testing.T, d dir.Dir, id api.Hash, a api.Answer) {
	t.Helper()
	if err := dir.Right(d.Root(), id, a); err == api.OK && !slices.Equal(a.Keys, d.Keys(id)) {
		t.Errorf("%x is said to have %x, and it has %x", id, a.Keys, d.Keys(id))
	}
}

// P12.4: each answer of a directory is right for its root, and right for another directory only if it is that one's.
func TestRightOfOthers(t *testing.T) {
	rnd := rand.New(rand.NewSource(1223))
	for range 40 {
		has := some(rnd, 6)
		id := noise(rnd)
		has[id] = hashes(rnd, 1+rnd.Intn(3))
		other := maps.Clone(has)
		if k := has.pairs().rising()[rnd.Intn(len(has))]; rnd.Intn(2) == 0 {
			delete(other, k)
		} else {
			other[k] = append(slices.Clone(other[k]), noise(rnd))
		}
		d, e := builds(t, 1, has), builds(t, 1, other)
		ids := append(has.pairs().rising(), noise(rnd), turned(id, 255), turned(id, 100))
		for _, i := range ids {
			rights(t, d.Root(), i, d.Answer(i), api.OK)
			rights(t, e.Root(), i, e.Answer(i), api.OK)
			rights(t, e.Root(), i, d.Answer(i), api.ErrRoot)
			rights(t, d.Root(), i, e.Answer(i), api.ErrRoot)
			for _, j := range ids {
				keeps(t, d, i, d.Answer(j))
				keeps(t, d, i, api.Answer{Keys: d.Keys(j), Proof: d.Answer(i).Proof})
				keeps(t, d, i, api.Answer{Keys: e.Keys(i), Proof: d.Answer(j).Proof})
			}
		}
	}
}

// P12.4: an elder directory's answer is right for its own root, and not for a later one's, if its batch changed anything.
func TestRightOfEpochs(t *testing.T) {
	us := slices.Concat(history(20, 3), history(21, 3))
	d := dir.Dir{}
	for i, u := range us {
		e := d.Apply(u)
		for _, id := range []api.Hash{us[0].Id, us[5].Id, {9}} {
			rights(t, e.Root(), id, e.Answer(id), api.OK)
			rights(t, d.Root(), id, d.Answer(id), api.OK)
			rights(t, e.Root(), id, d.Answer(id), api.ErrRoot)
			rights(t, e.Apply(us[:i+1]...).Root(), id, e.Answer(id), api.OK)
		}
		d = e
	}
}

// FuzzRight holds what is taken against a directory: whatever a proof says, only the keys that this has.
func FuzzRight(f *testing.F) {
	rnd := rand.New(rand.NewSource(1230))
	has := all{{0x10}: hashes(rnd, 2), {0x30}: hashes(rnd, 1), {0x90}: hashes(rnd, 1), {0x90, 1}: hashes(rnd, 3)}
	d, err := dir.Build(1, has)
	if err != api.OK {
		f.Fatal(err)
	}
	for _, id := range []api.Hash{{}, {0x10}, {0x30}, {0x50}, {0x90}, {0x90, 1}} {
		a := d.Answer(id)
		var keys []byte
		for _, k := range a.Keys {
			keys = append(keys, k[:]...)
		}
		f.Add(id[:], keys, a.Proof)
		f.Add(id[:], []byte{}, a.Proof)
	}
	f.Fuzz(func(t *testing.T, id, keys, proof []byte) {
		var at api.Hash
		copy(at[:], id)
		a := api.Answer{Proof: proof}
		for ; len(keys) >= 32; keys = keys[32:] {
			a.Keys = append(a.Keys, api.Hash(keys))
		}
		p, want := witness.Parse(proof)
		value, there, unknown := p.Get(at)
		switch {
		case want != api.OK:
		case p.Root() != d.Root():
			want = api.ErrRoot
		case unknown != api.OK:
			want = api.ErrUnknown
		case there != (len(a.Keys) > 0), there && value != valueOf(a.Keys...):
			want = api.ErrRoot
		}
		rights(t, d.Root(), at, a, want)
		keeps(t, d, at, a)
		if want == api.OK {
			rights(t, api.Hash{}, at, a, api.ErrRoot)
		}
	})
}
