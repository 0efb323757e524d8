package audit_test

import (
	"bytes"
	"crypto/ed25519"
	"crypto/sha256"
	"encoding/binary"
	"maps"
	"math/rand"
	"slices"
	"testing"

	"witan/api"
	"witan/audit"
	"witan/dir"
)

// all is what a directory has, as chapter 12's words have it, made without the program.
type all map[api.Hash][]api.Hash

// grow answers what there is behind a batch, and what grew by it, identities rising; a stays as it is.
func (a all) grow(batch ...api.Update) (all, []api.Grown) {
	next, more := maps.Clone(a), map[api.Hash][]api.Update{}
	if next == nil {
		next = all{}
	}
	for _, u := range batch {
		if have := next[u.Id]; signed(u) && u.Version == len(have)+1 {
			next[u.Id] = append(slices.Clone(have), u.Key)
			more[u.Id] = append(more[u.Id], u)
		}
	}
	var grown []api.Grown
	for id, us := range more {
		grown = append(grown, api.Grown{Id: id, Keys: a[id], More: us})
	}
	slices.SortFunc(grown, func(x, y api.Grown) int { return bytes.Compare(x.Id[:], y.Id[:]) })
	return next, grown
}

// apply answers what there is behind a batch.
func (a all) apply(batch ...api.Update) all {
	next, _ := a.grow(batch...)
	return next
}

// pairs answers what stands in the tree.
func (a all) pairs() pairs {
	p := pairs{}
	for id, keys := range a {
		p[id] = valueOf(keys...)
	}
	return p
}

// root of the directory.
func (a all) root() api.Hash { return rootOf(a.pairs(), 0) }

// step answers the bytes of the step by a batch, as the chapter's words have them, made without the program.
func (a all) step(batch ...api.Update) []byte {
	_, grown := a.grow(batch...)
	return laid(a.cut(idsOf(grown)...).bytes(), grown...)
}

// cut answers the part of the directory's tree for these identities.
func (a all) cut(ids ...api.Hash) *shape { return cutOf(a.pairs(), 0, ids) }

// idsOf answers the identities of what grew.
func idsOf(grown []api.Grown) []api.Hash {
	var ids []api.Hash
	for _, g := range grown {
		ids = append(ids, g.Id)
	}
	return ids
}

// body answers what an owner signs of an update, with what layer 7 lays ahead of it, made without the program.
func body(u api.Update) []byte {
	b := append([]byte("witan"), byte(api.TagUpdate), 0, 0, 0, 0, 0, 0, 0, 40)
	return append(binary.BigEndian.AppendUint64(b, uint64(u.Version)), u.Key[:]...)
}

// signed tells whether an update is, by Go's own Ed25519.
func signed(u api.Update) bool {
	return 1 <= u.Version && u.Version <= api.MaxKeys && ed25519.Verify(u.Id[:], body(u), u.Sig[:])
}

// made answers the update of an owner, by Go's own Ed25519.
func made(owner byte, version int, key api.Hash) api.Update {
	k := ed25519.NewKeyFromSeed(bytes.Repeat([]byte{owner}, 32))
	u := api.Update{Id: api.Hash(k.Public().(ed25519.PublicKey)), Version: version, Key: key}
	u.Sig = api.Sig(ed25519.Sign(k, body(u)))
	return u
}

// history answers the updates of an owner that have the versions from 1 to n.
func history(owner byte, n int) []api.Update {
	var us []api.Update
	for v := 1; v <= n; v++ {
		us = append(us, made(owner, v, api.Hash{owner, byte(v)}))
	}
	return us
}

// keysOf answers the keys of updates.
func keysOf(us []api.Update) []api.Hash {
	var keys []api.Hash
	for _, u := range us {
		keys = append(keys, u.Key)
	}
	return keys
}

// valueOf answers a history's value, as layer 11's words have it, made without the program.
func valueOf(keys ...api.Hash) api.Hash {
	var d api.Hash
	for _, k := range keys {
		d = digest(3, d, k)
	}
	return sha256.Sum256(slices.Concat([]byte{2}, number(len(keys)), d[:]))
}

// number answers a number in layer 1's form.
func number(n int) []byte { return binary.BigEndian.AppendUint64(nil, uint64(n)) }

// framed answers bytes in layer 1's form.
func framed(b []byte) []byte { return append(number(len(b)), b...) }

// batchOf answers a batch's bytes, as layer 11's words have them.
func batchOf(us ...api.Update) []byte {
	b := number(len(us))
	for _, u := range us {
		b = append(b, slices.Concat(u.Id[:], number(u.Version), u.Key[:], u.Sig[:])...)
	}
	return b
}

// headOf answers what stands in a step's bytes ahead of a batch.
func headOf(g api.Grown) []byte {
	b := append(slices.Clone(g.Id[:]), number(len(g.Keys))...)
	for _, k := range g.Keys {
		b = append(b, k[:]...)
	}
	return b
}

// laid answers the bytes of a step, as the chapter's words have them.
func laid(part []byte, grown ...api.Grown) []byte {
	b := append(framed(part), number(len(grown))...)
	for _, g := range grown {
		b = append(append(b, headOf(g)...), framed(batchOf(g.More...))...)
	}
	return b
}

// built answers the directory of that epoch with these histories.
func built(t testing.TB, epoch int, a all) dir.Dir {
	t.Helper()
	d, err := dir.Build(epoch, a)
	if err != api.OK || d.Root() != a.root() {
		t.Fatalf("Build of %d histories: %v", len(a), err)
	}
	return d
}

// steps holds the step by a batch against what it is to be, and answers it.
func steps(t *testing.T, d dir.Dir, a all, batch ...api.Update) []byte {
	t.Helper()
	want := a.step(batch...)
	got := audit.Step(d, batch...)
	if !bytes.Equal(got, want) {
		t.Fatalf("a batch of %d: the step %x, not %x", len(batch), head(got), head(want))
	}
	e, next := d.Apply(batch...), a.apply(batch...)
	if e.Root() != next.root() {
		t.Fatalf("a batch of %d: the root %x", len(batch), e.Root())
	}
	grows(t, got, api.OK)
	checks(t, d.Root(), e.Root(), got, api.OK)
	shows(t, a, next, got)
	return got
}

// grows asks what grew, which is to be as the chapter's words have it.
func grows(t *testing.T, step []byte, want api.Errno) {
	t.Helper()
	_, grown, err := told(step)
	if err != want {
		t.Fatalf("the test is wrong: %d bytes are %v, not %v", len(step), err, want)
	}
	before := slices.Clone(step)
	got, err := audit.Grown(step)
	if err != want || !slices.EqualFunc(got, grown, same) {
		t.Errorf("Grown of %d bytes, %x: %v and %d, not %v and %d", len(step), head(step), err, len(got), want, len(grown))
	}
	if !bytes.Equal(step, before) {
		t.Error("the step changed")
	}
}

// checks asks whether a step leads from a root to another one.
func checks(t *testing.T, from, to api.Hash, step []byte, want api.Errno) {
	t.Helper()
	if err := checked(from, to, step); err != want {
		t.Fatalf("the test is wrong: %d bytes are %v, not %v", len(step), err, want)
	}
	before := slices.Clone(step)
	if err := audit.Check(from, to, step); err != want {
		t.Errorf("Check of %d bytes, %x: %v, not %v", len(step), head(step), err, want)
	}
	if !bytes.Equal(step, before) {
		t.Error("the step changed")
	}
}

// shows asks that a step, if it leads from a directory's root to another one's, says just how they differ.
func shows(t *testing.T, a, b all, step []byte) {
	t.Helper()
	if audit.Check(a.root(), b.root(), step) != api.OK {
		return
	}
	grown, _ := audit.Grown(step)
	c := maps.Clone(a)
	if c == nil {
		c = all{}
	}
	for _, g := range grown {
		if !slices.Equal(c[g.Id], g.Keys) {
			t.Errorf("%x had %d keys, not %d", g.Id, len(c[g.Id]), len(g.Keys))
		}
		c[g.Id] = slices.Concat(g.Keys, keysOf(g.More))
	}
	if !maps.EqualFunc(b, c, slices.Equal) {
		t.Errorf("%d that grew don't lead from %d histories to %d", len(grown), len(a), len(b))
	}
}

// same tells whether two that grew are one.
func same(x, y api.Grown) bool {
	return x.Id == y.Id && slices.Equal(x.Keys, y.Keys) && slices.Equal(x.More, y.More)
}

// head answers the first of many bytes.
func head(b []byte) []byte { return b[:min(len(b), 99)] }

// turned answers a key with the bit of that number turned.
func turned(k api.Hash, number int) api.Hash {
	k[number/8] ^= 0x80 >> (number % 8)
	return k
}

// noise answers a hash of anything.
func noise(rnd *rand.Rand) api.Hash {
	var h api.Hash
	rnd.Read(h[:])
	return h
}

// hashes answers n hashes of anything.
func hashes(rnd *rand.Rand, n int) []api.Hash {
	h := make([]api.Hash, n)
	for i := range h {
		h[i] = noise(rnd)
	}
	return h
}

// around answers histories of up to most identities: anywhere, and such as are unlike these in few bits.
func around(rnd *rand.Rand, most int, ids ...api.Hash) all {
	a := all{}
	for range rnd.Intn(most + 1) {
		id := noise(rnd)
		if len(ids) > 0 && rnd.Intn(2) == 0 {
			id = turned(ids[rnd.Intn(len(ids))], rnd.Intn(256))
		}
		a[id] = hashes(rnd, 1+rnd.Intn(4))
	}
	return a
}
