package ring_test

import (
	"bytes"
	"crypto/ed25519"
	"encoding/binary"
	"encoding/hex"
	"math"
	"math/rand"
	"slices"
	"testing"

	"witan/api"
	"witan/ring"
	"witan/sign"
)

// seedOf answers the seed of replica i, for tests.
func seedOf(i int) api.Hash {
	return api.Hash{0: byte(i), 1: byte(i >> 8), 31: 7}
}

// keysOf answers the keys of the first n replicas, behind which there is spare room with marks in it.
func keysOf(n int) []api.Hash {
	keys := make([]api.Hash, n+3)
	for i := range n {
		keys[i] = sign.Public(seedOf(i))
	}
	for i := range 3 {
		keys[n+i] = api.Hash{0xee, byte(i)}
	}
	return keys[:n]
}

// ringOf answers the ring of the first n replicas.
func ringOf(t testing.TB, n int) *ring.Ring {
	t.Helper()
	r, err := ring.New(keysOf(n)...)
	if err != api.OK || r == nil {
		t.Fatalf("the ring of %d: %v", n, err)
	}
	return r
}

// laid answers what is signed, as the chapter's words have it, made without the program.
func laid(tag api.Tag, body []byte) []byte {
	b := append([]byte("witan"), byte(tag))
	return append(binary.BigEndian.AppendUint64(b, uint64(len(body))), body...)
}

// library answers the signature that Go's own Ed25519 has of these bytes.
func library(seed api.Hash, m []byte) api.Sig {
	return api.Sig(ed25519.Sign(ed25519.NewKeyFromSeed(seed[:]), m))
}

// noise answers n bytes of anything.
func noise(rnd *rand.Rand, n int) []byte {
	b := make([]byte, n)
	rnd.Read(b)
	return b
}

// opens asks twice, since what was verified once is kept.
func opens(t *testing.T, r *ring.Ring, i int, tag api.Tag, body []byte, sig api.Sig, want bool) {
	t.Helper()
	for range 2 {
		if got := r.Open(i, tag, body, sig); got != want {
			t.Errorf("Open of replica %d, tag %d, %d bytes: %v", i, tag, len(body), got)
		}
	}
}

// The chapter's examples.
func TestExamples(t *testing.T) {
	r := ringOf(t, 4)
	if r.Size() != 4 || r.Faults() != 1 || r.Quorum() != 3 {
		t.Errorf("four keys: %d, %d, %d", r.Size(), r.Faults(), r.Quorum())
	}
	body := []byte("body")
	sig := ring.Seal(seedOf(2), api.TagPrepare, body)
	opens(t, r, 2, api.TagPrepare, body, sig, true)
	opens(t, r, 2, api.TagCommit, body, sig, false)
	opens(t, r, 1, api.TagPrepare, body, sig, false)
	if r, err := ring.New(keysOf(2)...); r != nil || err != api.ErrArg {
		t.Errorf("two keys: %v", err)
	}
}

// P7.1: of all numbers of keys 1, 4 and 7 alone make a ring; its numbers and its keys.
func TestNumbers(t *testing.T) {
	faults := map[int]int{1: 0, 4: 1, 7: 2}
	for n := range 40 {
		keys := keysOf(n)
		r, err := ring.New(keys...)
		f, may := faults[n]
		if !may {
			if r != nil || err != api.ErrArg {
				t.Errorf("%d keys: %v", n, err)
			}
			continue
		}
		if err != api.OK || r == nil {
			t.Fatalf("%d keys: %v", n, err)
		}
		if r.Size() != 3*f+1 || r.Faults() != f || r.Quorum() != 2*f+1 {
			t.Errorf("%d keys: %d, %d, %d", n, r.Size(), r.Faults(), r.Quorum())
		}
		for i, k := range keys {
			if r.Key(i) != k {
				t.Errorf("%d keys: the key %d is %x", n, i, r.Key(i))
			}
		}
	}
	for _, n := range []int{64, 100, 1<<20 - 3, 1 << 20} { // some are 3f + 1, of an f that may not be
		keys := make([]api.Hash, n)
		for i := range keys {
			binary.BigEndian.PutUint32(keys[i][:], uint32(i))
		}
		if r, err := ring.New(keys...); r != nil || err != api.ErrArg {
			t.Errorf("%d keys: %v", n, err)
		}
	}
}

// P7.1: no keys at all, in all their forms.
func TestNoKeys(t *testing.T) {
	for i, keys := range [][]api.Hash{nil, {}, make([]api.Hash, 0, 4)} {
		if r, err := ring.New(keys...); r != nil || err != api.ErrArg {
			t.Errorf("no keys, case %d: %v", i, err)
		}
	}
	if r, err := ring.New(); r != nil || err != api.ErrArg {
		t.Errorf("no keys: %v", err)
	}
}

// P7.1: two keys that are the same, at each pair of places; keys that differ in one bit are not.
func TestTwice(t *testing.T) {
	for _, n := range []int{2, 4, 7} {
		for i := range n {
			for j := range n {
				keys := keysOf(n)
				if i == j {
					continue
				}
				keys[j] = keys[i]
				if r, err := ring.New(keys...); r != nil || err != api.ErrArg {
					t.Errorf("%d keys, %d and %d the same: %v", n, i, j, err)
				}
				for _, bit := range []int{0, 7, 128, 255} {
					keys[j] = keys[i]
					keys[j][bit/8] ^= 1 << (bit % 8)
					if r, err := ring.New(keys...); (r != nil) != (n != 2) || (err == api.OK) != (n != 2) {
						t.Errorf("%d keys, %d and %d differ in the bit %d: %v", n, i, j, bit, err)
					}
				}
			}
		}
	}
	if r, err := ring.New(make([]api.Hash, 4)...); r != nil || err != api.ErrArg {
		t.Errorf("four keys of noughts: %v", err)
	}
}

// P7.1: whether a key is a point isn't asked; nothing is signed by one that isn't, or by a Small one.
func TestAnyKeys(t *testing.T) {
	keys := []api.Hash{{}, {1}, {2}, api.Hash(bytes.Repeat([]byte{0xff}, 32))}
	r, err := ring.New(keys...)
	if err != api.OK || r.Size() != 4 {
		t.Fatalf("keys that are no points: %v", err)
	}
	for i, k := range keys {
		if r.Key(i) != k {
			t.Errorf("the key %d: %x", i, r.Key(i))
		}
		for _, sig := range []api.Sig{{}, {0: 1}, ring.Seal(seedOf(i), api.TagRoot, nil)} {
			opens(t, r, i, api.TagRoot, nil, sig, false)
			if ring.Owned(k, api.TagRoot, nil, sig) {
				t.Errorf("the key %d owns", i)
			}
		}
	}
	if r, err := ring.New(api.Hash{}); err != api.OK || r.Size() != 1 || r.Key(0) != (api.Hash{}) {
		t.Errorf("a key of noughts: %v", err)
	}
}

// P7.1, P7.2: numbers of no replica have noughts as their key, and open nothing.
func TestNoReplica(t *testing.T) {
	body := []byte("body")
	for _, n := range []int{1, 4, 7} {
		r := ringOf(t, n)
		for _, i := range []int{n, n + 1, 7, 256, 256 + n - 1, 1 << 32, math.MaxInt, -1, -n, -256, -1 << 32, math.MinInt} {
			if k := r.Key(i); k != (api.Hash{}) {
				t.Errorf("of %d the key %d: %x", n, i, k)
			}
			for j := range n {
				opens(t, r, i, api.TagRoot, body, ring.Seal(seedOf(j), api.TagRoot, body), false)
			}
			opens(t, r, i, api.TagRoot, body, api.Sig{}, false)
		}
	}
}

// P7.1: of a nil ring: 0, noughts, false.
func TestNil(t *testing.T) {
	var r *ring.Ring
	if r.Size() != 0 || r.Faults() != 0 || r.Quorum() != 0 {
		t.Errorf("a nil ring: %d, %d, %d", r.Size(), r.Faults(), r.Quorum())
	}
	for _, i := range []int{0, 1, -1, 7, math.MaxInt, math.MinInt} {
		if k := r.Key(i); k != (api.Hash{}) {
			t.Errorf("a nil ring's key %d: %x", i, k)
		}
		opens(t, r, i, api.TagRoot, nil, api.Sig{}, false)
		opens(t, r, i, api.TagRoot, nil, ring.Seal(seedOf(0), api.TagRoot, nil), false)
	}
}

// P7.2: what is signed, as a list of bytes that this test has written out, and its signature, that the library has made.
func TestWrittenOut(t *testing.T) {
	for _, x := range []struct {
		tag  api.Tag
		body string
		want string
	}{
		{api.TagUpdate, "", "776974616e010000000000000000"},
		{api.TagPrepare, "b", "776974616e03000000000000000162"},
		{255, "witan", "776974616eff0000000000000005776974616e"},
	} {
		m, err := hex.DecodeString(x.want)
		if err != nil || !bytes.Equal(m, laid(x.tag, []byte(x.body))) {
			t.Fatalf("tag %d of %q: the test lays %x", x.tag, x.body, laid(x.tag, []byte(x.body)))
		}
		if sig := ring.Seal(seedOf(0), x.tag, []byte(x.body)); sig != library(seedOf(0), m) {
			t.Errorf("tag %d of %q: %x", x.tag, x.body, sig)
		}
	}
}

// P7.2: Seal, Owned and Open under every tag, and bodies of many lengths, against the library.
func TestLibrary(t *testing.T) {
	rnd := rand.New(rand.NewSource(71))
	r := ringOf(t, 7)
	for n := range 300 {
		seed, tag, body := seedOf(n%7), api.Tag(n), noise(rnd, n)
		sig := ring.Seal(seed, tag, body)
		if sig != library(seed, laid(tag, body)) {
			t.Fatalf("tag %d of %d bytes: %x", tag, n, sig)
		}
		if !ring.Owned(r.Key(n%7), tag, body, sig) {
			t.Errorf("tag %d of %d bytes: not owned", tag, n)
		}
		opens(t, r, n%7, tag, body, sig, true)
	}
}

// P7.2: of bodies as great as may be, and a byte more.
func TestGreat(t *testing.T) {
	rnd := rand.New(rand.NewSource(72))
	r := ringOf(t, 1)
	for _, n := range []int{api.MaxCount, api.MaxBytes - 1, api.MaxBytes, api.MaxBytes + 1} {
		body := noise(rnd, n)
		sig := ring.Seal(seedOf(0), api.TagView, body)
		if sig != library(seedOf(0), laid(api.TagView, body)) || !ring.Owned(r.Key(0), api.TagView, body, sig) {
			t.Errorf("%d bytes: %x", n, sig)
		}
		opens(t, r, 0, api.TagView, body, sig, true)
		body[n-1]++
		opens(t, r, 0, api.TagView, body, sig, false)
		opens(t, r, 0, api.TagView, body[:n-1], sig, false)
	}
}

// P7.2: Owned asks no ring: an owner's key is any key.
func TestOwned(t *testing.T) {
	seed := api.Hash{9: 9}
	key, body := sign.Public(seed), []byte("mine")
	sig := ring.Seal(seed, api.TagUpdate, body)
	if !ring.Owned(key, api.TagUpdate, body, sig) {
		t.Error("its own: not owned")
	}
	other := sign.Public(seedOf(0))
	if ring.Owned(other, api.TagUpdate, body, sig) || ring.Owned(api.Hash{}, api.TagUpdate, body, sig) ||
		ring.Owned(key, api.TagRoot, body, sig) || ring.Owned(key, api.TagUpdate, body[1:], sig) || ring.Owned(key, api.TagUpdate, body, api.Sig{}) {
		t.Error("another one's: owned")
	}
	for i := range 4 {
		opens(t, ringOf(t, 4), i, api.TagUpdate, body, sig, false)
	}
}

// P7.3: each signature is right for its tag, its body and its replica alone; asked ahead of the right one and behind it, when that is kept.
func TestNoOther(t *testing.T) {
	tags := []api.Tag{api.TagUpdate, api.TagPropose, api.TagPrepare, api.TagRoot, api.TagView, 0}
	bodies := [][]byte{nil, {0}, {3}, []byte("a"), []byte("b"), []byte("ab")}
	for _, n := range []int{1, 4} {
		type said struct {
			from, tag, body int
			sig             api.Sig
		}
		var all []said
		for i := range n {
			for j, tag := range tags {
				for k, body := range bodies {
					all = append(all, said{i, j, k, ring.Seal(seedOf(i), tag, body)})
				}
			}
		}
		rnd := rand.New(rand.NewSource(73))
		r := ringOf(t, n)
		for range 4000 {
			x, y := all[rnd.Intn(len(all))], all[rnd.Intn(len(all))]
			switch rnd.Intn(5) { // what differs in one thing only is asked more often
			case 0:
				y.from, y.tag = x.from, x.tag
			case 1:
				y.from, y.body = x.from, x.body
			case 2:
				y.tag, y.body = x.tag, x.body
			case 3:
				y = x
			}
			want := x.from == y.from && x.tag == y.tag && x.body == y.body
			if r.Open(y.from, tags[y.tag], bodies[y.body], x.sig) != want {
				t.Fatalf("of %d: what %d said under %d of %q, as %d's under %d of %q: %v",
					n, x.from, tags[x.tag], bodies[x.body], y.from, tags[y.tag], bodies[y.body], !want)
			}
		}
	}
}

// P7.3: under each tag, with each of its bits turned.
func TestTags(t *testing.T) {
	r := ringOf(t, 1)
	body := []byte("tags")
	for tag := range 256 {
		sig := ring.Seal(seedOf(0), api.Tag(tag), body)
		opens(t, r, 0, api.Tag(tag), body, sig, true)
		for bit := range 8 {
			if r.Open(0, api.Tag(tag^1<<bit), body, sig) {
				t.Errorf("under %d, taken for one under %d", tag, tag^1<<bit)
			}
		}
	}
}

// P7.3: with one bit turned in the body or the signature, also once the right one is kept.
func TestTurned(t *testing.T) {
	rnd := rand.New(rand.NewSource(74))
	for _, n := range []int{0, 1, 20} {
		for _, first := range []bool{false, true} {
			r := ringOf(t, 4)
			body := noise(rnd, n)
			sig := ring.Seal(seedOf(3), api.TagCommit, body)
			if first {
				opens(t, r, 3, api.TagCommit, body, sig, true)
			}
			for i := range 8 * n {
				body[i/8] ^= 1 << (i % 8)
				opens(t, r, 3, api.TagCommit, body, sig, false)
				body[i/8] ^= 1 << (i % 8)
			}
			for i := range 512 {
				other := sig
				other[i/8] ^= 1 << (i % 8)
				if r.Open(3, api.TagCommit, body, other) {
					t.Errorf("%d bytes, the signature's bit %d turned: right", n, i)
				}
			}
			opens(t, r, 3, api.TagCommit, append(body, 0), sig, false)
			opens(t, r, 3, api.TagCommit, body, sig, true)
		}
	}
}

// P7.3: a body can't pass for another one by what stands ahead of it: its length is signed, too.
func TestLengths(t *testing.T) {
	r := ringOf(t, 1)
	body := []byte("body")
	sig := ring.Seal(seedOf(0), api.TagRoot, body)
	whole := laid(api.TagRoot, body)
	for i := range whole {
		if len(whole[i:]) != len(body) {
			opens(t, r, 0, api.TagRoot, whole[i:], sig, false)
		}
	}
	// What the seed signed elsewhere, without the form, is no statement.
	for _, m := range [][]byte{body, append([]byte("witan"), byte(api.TagRoot)), append([]byte("witan\x05"), body...), whole[5:]} {
		opens(t, r, 0, api.TagRoot, body, sign.Sign(seedOf(0), m), false)
	}
	opens(t, r, 0, api.TagRoot, body, sign.Sign(seedOf(0), whole), true)
}

// Two rings know nothing of each other, though a key has another number there, or is in one alone.
func TestTwoRings(t *testing.T) {
	keys := keysOf(4)
	one, _ := ring.New(keys...)
	two, err := ring.New(keys[1], keys[0], keys[2], sign.Public(seedOf(9)))
	if err != api.OK {
		t.Fatal(err)
	}
	body := []byte("body")
	for i := range 4 {
		sig := ring.Seal(seedOf(i), api.TagRoot, body)
		opens(t, one, i, api.TagRoot, body, sig, true)
		opens(t, two, i, api.TagRoot, body, sig, i == 2)
		if i < 2 {
			opens(t, two, 1-i, api.TagRoot, body, sig, true)
			opens(t, one, 1-i, api.TagRoot, body, sig, false)
		}
	}
	sig := ring.Seal(seedOf(9), api.TagRoot, body)
	opens(t, two, 3, api.TagRoot, body, sig, true)
	opens(t, one, 3, api.TagRoot, body, sig, false)
}

// What is handed in stays as it is, spare room too; nor is it kept: keys and bodies that change later don't count.
func TestHandedIn(t *testing.T) {
	keys := keysOf(4)
	room := slices.Clone(keys[:cap(keys)])
	r, err := ring.New(keys...)
	if err != api.OK || !slices.Equal(keys[:cap(keys)], room) {
		t.Fatalf("the keys changed: %v", err)
	}
	body := append(make([]byte, 0, 40), "body"...)
	copy(body[4:40], bytes.Repeat([]byte{0xee}, 36))
	before := slices.Clone(body[:40])
	sig := ring.Seal(seedOf(1), api.TagRoot, body)
	opens(t, r, 1, api.TagRoot, body, sig, true)
	if !ring.Owned(keys[1], api.TagRoot, body, sig) || !bytes.Equal(body[:40], before) {
		t.Errorf("the body changed: %x", body[:40])
	}
	for i := range keys {
		keys[i] = api.Hash{}
	}
	body[0]++
	for i := range keys {
		if r.Key(i) != room[i] {
			t.Errorf("the key %d changed with the list: %x", i, r.Key(i))
		}
	}
	opens(t, r, 1, api.TagRoot, body, sig, false)
	opens(t, r, 1, api.TagRoot, before[:4], sig, true)
	body[0]--
	opens(t, r, 1, api.TagRoot, body, sig, true)
	opens(t, r, 1, api.TagRoot, body[:3], sig, false)
	if nothing := ring.Seal(seedOf(1), 0, nil); nothing != ring.Seal(seedOf(1), 0, []byte{}) {
		t.Error("nil and empty bodies are two")
	} else {
		opens(t, r, 1, 0, []byte{}, nothing, true)
		opens(t, r, 1, 0, nil, nothing, true)
	}
}

// FuzzRing holds Seal, Owned and Open against the library, of a statement that is taken for another one or for itself.
func FuzzRing(f *testing.F) {
	f.Add(2, uint8(3), []byte("body"), 2, uint8(3), []byte("body"), 0)
	f.Add(2, uint8(3), []byte("body"), 1, uint8(4), []byte{}, 600)
	f.Add(-1, uint8(0), []byte{}, 4, uint8(255), []byte{0}, 3)
	r := ringOf(f, 4)
	f.Fuzz(func(t *testing.T, i int, tag uint8, body []byte, j int, other uint8, more []byte, bit int) {
		sig := ring.Seal(seedOf(i), api.Tag(tag), body)
		if sig != library(seedOf(i), laid(api.Tag(tag), body)) || !ring.Owned(sign.Public(seedOf(i)), api.Tag(tag), body, sig) {
			t.Errorf("%d under %d of %x: %x", i, tag, body, sig)
		}
		there := 0 <= i && i < 4
		opens(t, r, i, api.Tag(tag), body, sig, there)
		opens(t, r, j, api.Tag(other), more, sig, 0 <= j && j < 4 && seedOf(i) == seedOf(j) && tag == other && bytes.Equal(body, more))
		if 0 <= bit && bit < 512 {
			sig[bit/8] ^= 1 << (bit % 8)
			opens(t, r, i, api.Tag(tag), body, sig, false)
		}
	})
}

func BenchmarkOwned(b *testing.B) {
	body := make([]byte, 48)
	key, sig := sign.Public(seedOf(0)), ring.Seal(seedOf(0), api.TagPrepare, body)
	for b.Loop() {
		if !ring.Owned(key, api.TagPrepare, body, sig) {
			b.Fatal("not owned")
		}
	}
}

func BenchmarkOpenKept(b *testing.B) {
	body := make([]byte, 48)
	r, sig := ringOf(b, 1), ring.Seal(seedOf(0), api.TagPrepare, body)
	for b.Loop() {
		if !r.Open(0, api.TagPrepare, body, sig) {
			b.Fatal("not open")
		}
	}
}
