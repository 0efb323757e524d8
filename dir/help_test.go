package dir_test

import (
	"bytes"
	"crypto/ed25519"
	"crypto/sha256"
	"encoding/binary"
	"encoding/hex"
	"maps"
	"math/rand"
	"slices"
	"testing"

	"witan/api"
	"witan/dir"
)

// all is what a directory is to have, as the chapter's words have it, made without the program.
type all map[api.Hash][]api.Hash

// apply answers what there is behind a batch; a stays as it is.
func (a all) apply(batch ...api.Update) all {
	next := all{}
	maps.Copy(next, a)
	for _, u := range batch {
		if have := next[u.Id]; signed(u) && u.Version == len(have)+1 {
			next[u.Id] = append(slices.Clone(have), u.Key)
		}
	}
	return next
}

// pairs answers what stands in the tree.
func (a all) pairs() pairs {
	p := pairs{}
	for id, keys := range a {
		p[id] = valueOf(keys...)
	}
	return p
}

// body answers what an owner signs of an update, with what layer 7 lays ahead of it, made without the program.
func body(u api.Update) []byte {
	b := append([]byte("witan"), byte(api.TagUpdate), 0, 0, 0, 0, 0, 0, 0, 40)
	return append(binary.BigEndian.AppendUint64(b, uint64(u.Version)), u.Key[:]...)
}

// signed tells whether an update is, by Go's own Ed25519.
func signed(u api.Update) bool {
	return 1 <= u.Version && u.Version <= api.MaxKeys && ed25519.Verify(u.Id[:], body(u), u.Sig[:])
}

// made answers the update of an owner, by Go's own Ed25519.
func made(owner byte, version int, key api.Hash) api.Update {
	k := ed25519.NewKeyFromSeed(bytes.Repeat([]byte{owner}, 32))
	u := api.Update{Id: api.Hash(k.Public().(ed25519.PublicKey)), Version: version, Key: key}
	u.Sig = api.Sig(ed25519.Sign(k, body(u)))
	return u
}

// history answers the updates of an owner that have the versions from 1 to n.
func history(owner byte, n int) []api.Update {
	var us []api.Update
	for v := 1; v <= n; v++ {
		us = append(us, made(owner, v, api.Hash{owner, byte(v)}))
	}
	return us
}

// valueOf answers a history's value, as layer 11's words have it, made without the program.
func valueOf(keys ...api.Hash) api.Hash {
	var d api.Hash
	for _, k := range keys {
		d = digest(3, d, k)
	}
	return sha256.Sum256(append(binary.BigEndian.AppendUint64([]byte{2}, uint64(len(keys))), d[:]...))
}

// pairs are what a tree has.
type pairs map[api.Hash]api.Hash

// rising answers the keys, byte by byte.
func (p pairs) rising() []api.Hash {
	return slices.SortedFunc(maps.Keys(p), func(a, b api.Hash) int { return bytes.Compare(a[:], b[:]) })
}

// parted answers the pairs whose keys have the bit of that number 0, and those that have it 1.
func (p pairs) parted(number int) [2]pairs {
	sides := [2]pairs{{}, {}}
	for k, v := range p {
		sides[side(k, number)][k] = v
	}
	return sides
}

// side answers to which side a key leads: its bit of that number.
func side(k api.Hash, number int) int {
	if k[number/8]&(0x80>>(number%8)) != 0 {
		return 1
	}
	return 0
}

// digest is Go's own SHA-256 of a byte and two hashes.
func digest(first byte, a, b api.Hash) api.Hash {
	return sha256.Sum256(slices.Concat([]byte{first}, a[:], b[:]))
}

// rootOf answers the root of pairs at a depth, as layer 9's words have it, made without the program.
func rootOf(p pairs, depth int) api.Hash {
	if len(p) > 1 {
		sides := p.parted(depth)
		return digest(1, rootOf(sides[0], depth+1), rootOf(sides[1], depth+1))
	}
	for k, v := range p {
		return digest(0, k, v)
	}
	return api.Hash{}
}

// cutOf answers the bytes of the part that is cut for a key, which leads there or doesn't, as layer 10's words have them, made without the program.
func cutOf(p pairs, depth int, key api.Hash, leads bool) []byte {
	switch {
	case len(p) == 0:
		return []byte{0}
	case !leads:
		return hides(rootOf(p, depth))
	case len(p) == 1:
		for k, v := range p {
			return leafOf(k, v)
		}
	}
	sides, to := p.parted(depth), side(key, depth)
	left, right := cutOf(sides[0], depth+1, key, to == 0), cutOf(sides[1], depth+1, key, to == 1)
	return slices.Concat([]byte{2}, left, right)
}

// hides answers a hidden node's bytes.
func hides(h api.Hash) []byte { return append([]byte{3}, h[:]...) }

// leafOf answers a leaf's bytes.
func leafOf(k, v api.Hash) []byte { return slices.Concat([]byte{1}, k[:], v[:]) }

// holds holds all that a directory tells against what it is to have.
func holds(t *testing.T, d dir.Dir, epoch int, want all) {
	t.Helper()
	p := want.pairs()
	root := rootOf(p, 0)
	if d.Epoch() != epoch || d.Root() != root {
		t.Fatalf("epoch %d, root %x, not %d, %x", d.Epoch(), d.Root(), epoch, root)
	}
	tr := d.Tree()
	if tr.Root() != root || tr.Len() != len(want) || !maps.Equal(maps.Collect(tr.All()), p) {
		t.Errorf("the tree has %d pairs, not %d, or others", tr.Len(), len(want))
	}
	tells(t, d, want)
	answers(t, d, want, p, api.Hash{})
	for id := range want {
		for _, bit := range []int{0, 1, 8, 255} {
			answers(t, d, want, p, turned(id, bit))
		}
		answers(t, d, want, p, id)
	}
}

// tells ranges over the directory, twice.
func tells(t *testing.T, d dir.Dir, want all) {
	t.Helper()
	seq := d.All()
	for range 2 {
		var ids []api.Hash
		for id, keys := range seq {
			if !slices.Equal(keys, want[id]) {
				t.Errorf("All: %x with %d keys, not these %d", id, len(keys), len(want[id]))
			}
			ids = append(ids, id)
		}
		if !slices.Equal(ids, want.pairs().rising()) {
			t.Errorf("All: %d identities, not %d, or not rising: %x", len(ids), len(want), ids)
		}
	}
}

// answers asks for the keys of an identity, and for the answer, which is to be right for the root.
func answers(t *testing.T, d dir.Dir, want all, p pairs, id api.Hash) {
	t.Helper()
	if keys := d.Keys(id); !slices.Equal(keys, want[id]) {
		t.Errorf("Keys of %x: %x, not %x", id, keys, want[id])
	}
	a, proof := d.Answer(id), cutOf(p, 0, id, true)
	if !slices.Equal(a.Keys, want[id]) || !bytes.Equal(a.Proof, proof) {
		t.Errorf("Answer for %x: %d keys, not %d, or the proof %x, not %x", id, len(a.Keys), len(want[id]), a.Proof, proof)
	}
	rights(t, d.Root(), id, a, api.OK)
}

// rights asks whether an answer is right, and that it stays as it is.
func rights(t *testing.T, root, id api.Hash, a api.Answer, want api.Errno) {
	t.Helper()
	before := copied(a)
	if err := dir.Right(root, id, a); err != want {
		t.Errorf("%d keys of %x, the proof %x: %v, not %v", len(a.Keys), id, a.Proof, err, want)
	}
	if !slices.Equal(a.Keys, before.Keys) || !bytes.Equal(a.Proof, before.Proof) {
		t.Error("the answer changed")
	}
}

// copied answers the same answer in other memory.
func copied(a api.Answer) api.Answer {
	return api.Answer{Keys: slices.Clone(a.Keys), Proof: slices.Clone(a.Proof)}
}

// builds answers the directory of that epoch with these histories.
func builds(t *testing.T, epoch int, a all) dir.Dir {
	t.Helper()
	d, err := dir.Build(epoch, a)
	if err != api.OK {
		t.Fatalf("Build of %d histories: %v", len(a), err)
	}
	return d
}

// turned answers a key with the bit of that number turned.
func turned(k api.Hash, number int) api.Hash {
	k[number/8] ^= 0x80 >> (number % 8)
	return k
}

// noise answers a hash of anything.
func noise(rnd *rand.Rand) api.Hash {
	var h api.Hash
	rnd.Read(h[:])
	return h
}

// hashes answers n hashes of anything.
func hashes(rnd *rand.Rand, n int) []api.Hash {
	h := make([]api.Hash, n)
	for i := range h {
		h[i] = noise(rnd)
	}
	return h
}

// some answers up to most histories: of identities anywhere, or of such as are unlike in few bits.
func some(rnd *rand.Rand, most int) all {
	a, base, near := all{}, noise(rnd), rnd.Intn(2) == 0
	for range rnd.Intn(most + 1) {
		id := noise(rnd)
		if near {
			id = turned(base, rnd.Intn(256))
		}
		a[id] = hashes(rnd, 1+rnd.Intn(4))
	}
	return a
}

// unhex answers the hash that is written out.
func unhex(t *testing.T, s string) api.Hash {
	t.Helper()
	b, err := hex.DecodeString(s)
	if err != nil || len(b) != 32 {
		t.Fatalf("no hash: %s", s)
	}
	return api.Hash(b)
}
