package hist_test

import (
	"math"
	"math/rand"
	"slices"
	"testing"

	"witan/api"
	"witan/curve"
	"witan/hist"
)

// odd are versions that no update may have.
var odd = []int{0, -1, -2, -64, -65, 65, 66, 128, 256, 257, 1 << 16, 1<<32 + 1, 1<<32 + 64, math.MaxInt, math.MinInt, math.MinInt + 1, -1<<32 + 1}

// The chapter's examples.
func TestExamples(t *testing.T) {
	k := api.Hash{7}
	u := hist.Make(api.Hash{1}, 1, k)
	signed(t, u, true)
	that, err := hist.Next(nil, u)
	if err != api.OK || !slices.Equal(that, []api.Hash{k}) {
		t.Errorf("the next of none: %v, %v", that, err)
	}
	nexts(t, that, u, api.ErrNext)
	for bit := range 512 {
		v := u
		v.Sig[bit/8] ^= 1 << (bit % 8)
		nexts(t, nil, v, api.ErrOwner)
		nexts(t, that, v, api.ErrOwner)
	}
}

// P11.1: Make against Go's own Ed25519, of all versions; which of them are signed.
func TestMake(t *testing.T) {
	rnd := rand.New(rand.NewSource(111))
	versions := slices.Clone(odd)
	for v := range api.MaxKeys {
		versions = append(versions, v+1)
	}
	for _, version := range versions {
		seed, key := api.Hash(noise(rnd, 32)), api.Hash(noise(rnd, 32))
		u := hist.Make(seed, version, key)
		if want := made(seed, version, key); u != want {
			t.Errorf("the version %d: %x, not %x", version, u, want)
		}
		signed(t, u, !slices.Contains(odd, version))
	}
	for _, seed := range []api.Hash{{}, {31: 0xff}} {
		for _, key := range []api.Hash{{}, {1}, seed} {
			u := hist.Make(seed, 1, key)
			if u != made(seed, 1, key) {
				t.Errorf("the seed %x, the key %x: %x", seed, key, u)
			}
			signed(t, u, true)
		}
	}
}

// P11.1: a signature stands for its identity, its version and its key, and for no others.
func TestSigned(t *testing.T) {
	u := hist.Make(api.Hash{2}, 3, api.Hash{9})
	signed(t, u, true)
	for bit := range 256 {
		v := u
		v.Id[bit/8] ^= 1 << (bit % 8)
		signed(t, v, false)
		v = u
		v.Key[bit/8] ^= 1 << (bit % 8)
		signed(t, v, false)
	}
	for version := -1; version <= api.MaxKeys+1; version++ {
		v := u
		v.Version = version
		signed(t, v, version == 3)
	}
	for _, version := range []int{3 + 1<<32, 3 - 1<<32, 3 + math.MinInt, math.MaxInt, math.MinInt} {
		v := u
		v.Version = version
		signed(t, v, false)
	}
	v := u
	v.Id = hist.Make(api.Hash{3}, 3, api.Hash{9}).Id
	signed(t, v, false)
	v.Sig = hist.Make(api.Hash{3}, 3, api.Hash{9}).Sig
	signed(t, v, true)
	v.Id, v.Key = v.Key, v.Id
	signed(t, v, false)
	signed(t, api.Update{}, false)
	signed(t, api.Update{Id: u.Id, Version: 3, Key: u.Key}, false)
}

// P11.1: what is signed is the body under TagUpdate, in layer 7's form: no other tag, body or form does.
func TestOtherBodies(t *testing.T) {
	seed, key := api.Hash{4}, api.Hash{5}
	u := made(seed, 2, key)
	signed(t, u, true)
	body := bodyOf(2, key)
	number := body[:8]
	bodies := [][]byte{
		body,                    // without what stands ahead of it
		said(0, body),           // of other tags
		said(api.TagRoot, body), //
		said(api.TagUpdate, nil),
		said(api.TagUpdate, number),
		said(api.TagUpdate, key[:]),
		said(api.TagUpdate, slices.Concat(key[:], number)),
		said(api.TagUpdate, slices.Concat(number, u.Id[:], key[:])),
		said(api.TagUpdate, slices.Concat(u.Id[:], body)),
		said(api.TagUpdate, slices.Concat([]byte{2}, key[:])),
		said(api.TagUpdate, slices.Concat([]byte{2, 0, 0, 0, 0, 0, 0, 0}, key[:])), // the least first
		said(api.TagUpdate, append(slices.Clone(body), 0)),
	}
	for i, m := range bodies {
		_, u.Sig = owner(seed, m)
		if hist.Signed(u) {
			t.Errorf("the body %d is taken", i)
		}
		nexts(t, []api.Hash{{1}}, u, api.ErrOwner)
	}
	_, u.Sig = owner(seed, said(api.TagUpdate, body))
	signed(t, u, true)
}

// P11.1: identities that are no points, or Small ones, sign nothing.
func TestOddOwners(t *testing.T) {
	zero := curve.Point{}.Hash()
	for _, id := range []api.Hash{zero, {}, {2}, {0: 0xec, 31: 0x7f}, {31: 0x80}, {0xff, 0xff}} {
		for _, sig := range []api.Sig{{}, {1}, api.Sig(slices.Concat(zero[:], make([]byte, 32)))} {
			signed(t, api.Update{Id: id, Version: 1, Sig: sig}, false)
			nexts(t, nil, api.Update{Id: id, Version: 1, Sig: sig}, api.ErrOwner)
		}
	}
}

// P11.1: a signature has one form: its second half and L more is none.
func TestOneForm(t *testing.T) {
	u := hist.Make(api.Hash{6}, 1, api.Hash{1})
	// L, the least byte first, as chapter 4 has it.
	l := [32]byte{0xed, 0xd3, 0xf5, 0x5c, 0x1a, 0x63, 0x12, 0x58, 0xd6, 0x9c, 0xf7, 0xa2, 0xde, 0xf9, 0xde, 0x14, 31: 0x10}
	carry := 0
	for i := range l {
		carry += int(u.Sig[32+i]) + int(l[i])
		u.Sig[32+i] = byte(carry)
		carry >>= 8
	}
	if carry != 0 {
		t.Fatal("the sum doesn't go in 32 bytes")
	}
	signed(t, u, false)
	nexts(t, nil, u, api.ErrOwner)
}

// P11.2: histories and versions of all kinds; who signed is asked ahead of what is next.
func TestNext(t *testing.T) {
	rnd := rand.New(rand.NewSource(112))
	seed := api.Hash{10}
	var all []api.Update
	for v := range api.MaxKeys + 4 {
		all = append(all, made(seed, v-1, api.Hash(noise(rnd, 32))))
	}
	keys := hashes(rnd, api.MaxKeys+3)
	for _, n := range []int{0, 1, 2, 3, 31, 62, 63, 64, 65, 66} {
		for _, u := range all {
			err := api.ErrNext
			if u.Version < 1 || u.Version > api.MaxKeys {
				err = api.ErrOwner // even where it were the next one
			} else if u.Version == n+1 {
				err = api.OK
			}
			nexts(t, keys[:n], u, err)
			u.Sig[40] ^= 4
			nexts(t, keys[:n], u, api.ErrOwner)
		}
	}
}

// P11.2: no more than MaxKeys keys, one behind the other; each next one of each beginning alone.
func TestWholeHistory(t *testing.T) {
	rnd := rand.New(rand.NewSource(113))
	var keys []api.Hash
	for v := 1; v <= api.MaxKeys; v++ {
		u := hist.Make(api.Hash{11}, v, api.Hash(noise(rnd, 32)))
		nexts(t, keys, u, api.OK)
		got, err := hist.Next(keys, u)
		if err != api.OK || len(got) != v || got[v-1] != u.Key {
			t.Fatalf("the version %d: %v, %d keys", v, err, len(got))
		}
		nexts(t, got, u, api.ErrNext)
		keys = got
	}
	nexts(t, keys, hist.Make(api.Hash{11}, api.MaxKeys+1, api.Hash{}), api.ErrOwner)
	nexts(t, keys, hist.Make(api.Hash{11}, api.MaxKeys, api.Hash{}), api.ErrNext)
	nexts(t, keys, hist.Make(api.Hash{11}, 1, api.Hash{}), api.ErrNext)
}

// P11.2: what keys there are isn't asked: the same one again, noughts, and whose they are; nor is a great number of them an error of its own.
func TestAnyKeys(t *testing.T) {
	u := hist.Make(api.Hash{12}, 3, api.Hash{1})
	for _, keys := range [][]api.Hash{{{1}, {1}}, {{}, {}}, {u.Id, u.Key}} {
		nexts(t, keys, u, api.OK)
	}
	nexts(t, make([]api.Hash, 2), hist.Make(api.Hash{12}, 3, api.Hash{}), api.OK)
	many := make([]api.Hash, 1<<20)
	nexts(t, many, u, api.ErrNext)
	nexts(t, many, api.Update{Version: 1<<20 + 1}, api.ErrOwner)
	for _, none := range [][]api.Hash{nil, {}, make([]api.Hash, 0, 9)} {
		nexts(t, none, u, api.ErrNext)
		nexts(t, none, hist.Make(api.Hash{12}, 1, api.Hash{}), api.OK)
	}
}

// P11.2: the keys that are handed in stay as they are, spare room too, and are not the answer's.
func TestNextHandedIn(t *testing.T) {
	rnd := rand.New(rand.NewSource(114))
	whole := hashes(rnd, 40)
	before := slices.Clone(whole)
	a, b := hist.Make(api.Hash{13}, 6, api.Hash{1}), hist.Make(api.Hash{13}, 6, api.Hash{2})
	first, err := hist.Next(whole[:5], a)
	if err != api.OK {
		t.Fatal(err)
	}
	second, err := hist.Next(whole[:5], b)
	if err != api.OK || !slices.Equal(whole, before) {
		t.Fatalf("%v, or the keys changed", err)
	}
	third, err := hist.Next(first, hist.Make(api.Hash{13}, 7, api.Hash{3}))
	if err != api.OK {
		t.Fatal(err)
	}
	clear(whole)
	clear(second[:cap(second)])
	if !slices.Equal(first, append(before[:5:5], a.Key)) {
		t.Error("an answer shares memory with its keys, or with another answer")
	}
	clear(first[:cap(first)])
	if !slices.Equal(third, append(before[:5:5], a.Key, api.Hash{3})) {
		t.Error("an answer shares memory with its keys")
	}
	clear(third[:cap(third)])
	if u := hist.Make(api.Hash{13}, 6, api.Hash{1}); u != a {
		t.Error("Make answers something else")
	}
}
