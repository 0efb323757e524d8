package msg_test

import (
	"bytes"
	"crypto/sha256"
	"encoding/hex"
	"math"
	"math/rand"
	"strings"
	"testing"

	"witan/api"
	"witan/hist"
	"witan/msg"
	"witan/ring"
)

// full answers an array of one byte, in all places.
func full(b byte) [64]byte {
	return [64]byte(bytes.Repeat([]byte{b}, 64))
}

// written are messages, and what this test has written out of each: its bytes, but for kind, From and signature, and its body.
type written struct {
	m           api.Msg
	laid, signs string
}

// hashOf answers 32 bytes of one.
func hashOf(b byte) api.Hash { return api.Hash(bytes.Repeat([]byte{b}, 32)) }

// writtenOut has a message of each kind; From is 5, and the signature 64 bytes ee.
func writtenOut() []written {
	u := api.Update{Id: hashOf(0x11), Version: 9, Key: hashOf(0x22), Sig: full(0x33)}
	batch := "0000000000000001" + strings.Repeat("11", 32) + "0000000000000009" + strings.Repeat("22", 32) + strings.Repeat("33", 64)
	raw, _ := hex.DecodeString("04" + batch)
	digest := sha256.Sum256(raw)
	c := api.Cert{Body: []byte("ab"), Signers: []int{4}, Sigs: []api.Sig{full(0x44)}}
	cert := "0000000000000002" + "6162" + "0000000000000001" + "0000000000000004" + strings.Repeat("44", 64)
	proofs := "0000000000000001" + "0000000000000006" + "0000000000000007" +
		"0000000000000090" + batch + "000000000000005a" + cert
	number, nought, hash := "000000007fffffff", strings.Repeat("00", 8), strings.Repeat("55", 32)
	change := api.Msg{Kind: api.TagChange, From: 2, View: 1, Sig: full(0x77)}
	changes := "0000000000000002" +
		"0000000000000071" + "06" + "0000000000000002" + "0000000000000001" + "0000000000000010" + nought + nought + nought + strings.Repeat("77", 64) +
		"0000000000000009" + "63" + "ffffffffffffffff"
	return []written{
		{api.Msg{Kind: api.TagPropose, View: most, Seq: 2, Batch: []api.Update{u}}, number + "0000000000000002" + "0000000000000090" + batch,
			number + "0000000000000002" + hex.EncodeToString(digest[:])},
		{api.Msg{Kind: api.TagPrepare, View: 1, Seq: most, Hash: hashOf(0x55)}, "0000000000000001" + number + hash, "0000000000000001" + number + hash},
		{api.Msg{Kind: api.TagCommit, View: -1, Seq: 258, Hash: hashOf(0x55)}, "ffffffffffffffff" + "0000000000000102" + hash, "ffffffffffffffff" + "0000000000000102" + hash},
		{api.Msg{Kind: api.TagRoot, Seq: 3, Hash: hashOf(0x55)}, "0000000000000003" + hash, "0000000000000003" + hash},
		{api.Msg{Kind: api.TagChange, View: 3, Cert: c, Proofs: []api.Proof{{View: 6, Seq: 7, Batch: []api.Update{u}, Cert: c}}},
			"0000000000000003" + "000000000000005a" + cert + proofs, "0000000000000003" + cert + proofs},
		{api.Msg{Kind: api.TagView, View: 3, Changes: []api.Msg{change, {Kind: 99, From: -1}}}, "0000000000000003" + changes, "0000000000000003" + changes},
		{api.Msg{Kind: api.TagRequest, Batch: []api.Update{u}}, "0000000000000090" + batch, ""},
		{api.Msg{Kind: api.TagLatest, Cert: c}, "000000000000005a" + cert, ""},
		{api.Msg{Kind: api.TagWant, Hash: hashOf(0x55)}, hash, ""},
		{api.Msg{Kind: api.TagHave, Chunk: []byte("abc")}, "0000000000000003" + "616263", ""},
	}
}

// P16.1: bodies that this test has written out.
func TestBodyWrittenOut(t *testing.T) {
	for _, w := range writtenOut() {
		if got := hex.EncodeToString(msg.Body(w.m)); got != w.signs {
			t.Errorf("kind %d: the body %s, not %s", w.m.Kind, got, w.signs)
		}
	}
}

// P16.1: bodies of messages of all kinds and of none; fields that a kind hasn't, and who sends and signs it, aren't in them.
func TestBody(t *testing.T) {
	rnd := rand.New(rand.NewSource(161))
	for _, k := range kinds {
		for range 40 {
			m := random(rnd, k)
			want := bodyOf(m)
			m.From, m.Sig = rnd.Int(), api.Sig{}
			for _, m := range []api.Msg{m, only(m)} {
				if got := msg.Body(m); !bytes.Equal(got, want) {
					t.Fatalf("kind %d: %d bytes, not %d, or others", k, len(got), len(want))
				}
			}
		}
	}
	for _, k := range append(others(), 8, 9, 10, 11) {
		if b := msg.Body(random(rnd, k)); len(b) != 0 {
			t.Errorf("kind %d: a body of %d bytes", k, len(b))
		}
	}
}

// P16.1: bounds aren't asked of what is signed, at each field and within.
func TestBodyAnyBounds(t *testing.T) {
	rnd := rand.New(rand.NewSource(162))
	for _, m := range beyond(rnd) {
		if got := msg.Body(m); !bytes.Equal(got, bodyOf(m)) {
			t.Errorf("kind %d: %d bytes that aren't these", m.Kind, len(got))
		}
	}
}

// beyond are messages that are beyond the bounds, one by one.
func beyond(rnd *rand.Rand) []api.Msg {
	var all []api.Msg
	for _, k := range kinds {
		for _, v := range []int{-1, 7, most + 1, math.MaxInt, math.MinInt} {
			m := random(rnd, k)
			m.From = v
			all = append(all, m)
			m.From, m.View = 1, v
			all = append(all, m)
			m.View, m.Seq = 1, v
			all = append(all, m)
		}
		m := random(rnd, k)
		m.Batch = updates(rnd, 5)
		m.Batch[3].Version, m.Batch[4].Version = -1, 65
		m.Cert = api.Cert{Body: noise(rnd, 9), Signers: []int{-1, 65537, 3, 3}, Sigs: make([]api.Sig, 2)}
		m.Proofs = many(rnd, 6)
		m.Proofs[2].View, m.Proofs[2].Seq, m.Proofs[5].Cert.Sigs = -1, math.MinInt, make([]api.Sig, 9)
		m.Proofs[4].Batch = updates(rnd, 9)
		m.Chunk = noise(rnd, api.MaxBytes+1)
		m.Changes = nil
		for _, k := range append([]api.Tag{0, 1, 12, 255}, kinds...) {
			m.Changes = append(m.Changes, random(rnd, k))
		}
		m.Changes[3].From = -9
		all = append(all, m)
	}
	return all
}

// P16.1: Seal answers the message with the signature of its body under its kind, whatever signature it had.
func TestSeal(t *testing.T) {
	rnd := rand.New(rand.NewSource(163))
	for _, k := range append(others(), kinds...) {
		m := random(rnd, k)
		before := plain(m)
		got := msg.Seal(seedOf(int(k)), m)
		want := m
		want.Sig = sealed(seedOf(int(k)), k, bodyOf(m))
		if !same(got, want) {
			t.Errorf("kind %d: another message, or another signature", k)
		}
		if !same(m, before) {
			t.Errorf("kind %d: the message changed", k)
		}
	}
	for _, m := range beyond(rnd) {
		want := m
		want.Sig = sealed(seedOf(1), m.Kind, bodyOf(m))
		if got := msg.Seal(seedOf(1), m); !same(got, want) {
			t.Errorf("kind %d beyond the bounds: another message, or another signature", m.Kind)
		}
	}
}

// opens asks twice, since a ring keeps what it verified.
func opens(t *testing.T, r *ring.Ring, m api.Msg, want bool) {
	t.Helper()
	for range 2 {
		if msg.Open(r, m) != want {
			t.Errorf("kind %d from %d: not %v", m.Kind, m.From, want)
		}
	}
}

// P16.1: a sealed message is its sender's, and nobody else's.
func TestOpen(t *testing.T) {
	rnd := rand.New(rand.NewSource(164))
	for _, n := range []int{1, 4, 7} {
		r := ringOf(t, n)
		for _, k := range kinds[:6] {
			m := random(rnd, k)
			by := rnd.Intn(n)
			m.Sig = sealed(seedOf(by), k, bodyOf(m)) // made without the program
			for from := range n {
				m.From = from
				opens(t, r, m, from == by)
				opens(t, r, msg.Seal(seedOf(by), m), from == by)
			}
			for _, from := range []int{-1, -n, n, n + by, 1 << 32, math.MaxInt, math.MinInt} {
				m.From = from
				opens(t, r, m, false)
			}
			m.From = by
			opens(t, nil, m, false)
			opens(t, ringOf(t, n), m, true)
			m.Sig = sealed(seedOf(n), k, bodyOf(m)) // of no replica
			opens(t, r, m, false)
			m.Sig = api.Sig{}
			opens(t, r, m, false)
		}
	}
}

// P16.1: kinds that aren't signed, or aren't there, are nobody's, though the signature of no body may be right.
func TestOpenUnsigned(t *testing.T) {
	rnd := rand.New(rand.NewSource(165))
	r := ringOf(t, 4)
	for _, k := range append(others(), 8, 9, 10, 11) {
		m := random(rnd, k)
		m.From = 2
		m = msg.Seal(seedOf(2), m)
		if !r.Open(2, k, nil, m.Sig) {
			t.Fatalf("kind %d: the test is wrong", k)
		}
		opens(t, r, m, false)
	}
}

// P16.1: a signature is of one kind alone, though another one's body may be the same.
func TestOpenTags(t *testing.T) {
	rnd := rand.New(rand.NewSource(166))
	r := ringOf(t, 4)
	for _, k := range kinds[:6] {
		m := random(rnd, k)
		m.From = 3
		for tag := range api.Tag(13) {
			m.Sig = sealed(seedOf(3), tag, bodyOf(m))
			opens(t, r, m, tag == k)
		}
	}
	m := msg.Seal(seedOf(3), api.Msg{Kind: api.TagPrepare, From: 3, View: 1, Seq: 2, Hash: api.Hash{7}})
	m.Kind = api.TagCommit
	opens(t, r, m, false)
}

// turns are messages that differ from m in one thing each, in each field and in all that is within.
func turns(m api.Msg) map[string]api.Msg {
	all := map[string]api.Msg{}
	turn := func(name string, f func(m *api.Msg)) {
		x := plain(m)
		f(&x)
		all[name] = x
	}
	turn("View", func(m *api.Msg) { m.View ^= 1 })
	turn("Seq", func(m *api.Msg) { m.Seq ^= 1 << 30 })
	turn("Hash", func(m *api.Msg) { m.Hash[31] ^= 1 })
	turn("Batch Id", func(m *api.Msg) { m.Batch[0].Id[0] ^= 1 })
	turn("Batch Version", func(m *api.Msg) { m.Batch[1].Version ^= 1 })
	turn("Batch Key", func(m *api.Msg) { m.Batch[0].Key[5] ^= 1 })
	turn("Batch Sig", func(m *api.Msg) { m.Batch[1].Sig[63] ^= 128 })
	turn("Batch one less", func(m *api.Msg) { m.Batch = m.Batch[:1] })
	turn("Batch in another order", func(m *api.Msg) { m.Batch[0], m.Batch[1] = m.Batch[1], m.Batch[0] })
	turn("Cert Body", func(m *api.Msg) { m.Cert.Body[0] ^= 1 })
	turn("Cert Signers", func(m *api.Msg) { m.Cert.Signers[1] ^= 1 })
	turn("Cert Sigs", func(m *api.Msg) { m.Cert.Sigs[0][9] ^= 1 })
	turn("Proofs View", func(m *api.Msg) { m.Proofs[0].View ^= 1 })
	turn("Proofs Seq", func(m *api.Msg) { m.Proofs[1].Seq ^= 1 })
	turn("Proofs Batch", func(m *api.Msg) { m.Proofs[0].Batch[0].Sig[0] ^= 1 })
	turn("Proofs Cert", func(m *api.Msg) { m.Proofs[1].Cert.Sigs[0][0] ^= 1 })
	turn("Proofs one less", func(m *api.Msg) { m.Proofs = m.Proofs[1:] })
	turn("Changes From", func(m *api.Msg) { m.Changes[0].From ^= 1 })
	turn("Changes Sig", func(m *api.Msg) { m.Changes[1].Sig[0] ^= 1 })
	turn("Changes Proofs", func(m *api.Msg) { m.Changes[1].Proofs[0].Batch[0].Version ^= 1 })
	turn("Changes Kind", func(m *api.Msg) { m.Changes[1].Kind = 99 })
	turn("Changes one less", func(m *api.Msg) { m.Changes = m.Changes[:1] })
	turn("Chunk", func(m *api.Msg) { m.Chunk[0] ^= 1 })
	return all
}

// P16.1: whatever is signed of a kind can't be turned; what isn't may be.
func TestOpenTurned(t *testing.T) {
	rnd := rand.New(rand.NewSource(167))
	r := ringOf(t, 1)
	in := map[rune]string{'v': "View", 's': "Seq", 'h': "Hash", 'b': "Batch", 'c': "Cert", 'p': "Proofs", 'm': "Changes"}
	change := api.Msg{Kind: api.TagChange, Proofs: []api.Proof{{Batch: updates(rnd, 1), Cert: certificate(rnd, 1)}, {Seq: 3, Cert: certificate(rnd, 2)}}}
	for _, k := range kinds[:6] {
		m := api.Msg{Kind: k, View: 2, Seq: 3, Hash: api.Hash{4}, Batch: updates(rnd, 2), Cert: certificate(rnd, 3), Proofs: change.Proofs, Changes: []api.Msg{change, change}, Chunk: []byte{1}}
		m.Cert.Body = []byte{8}
		m = msg.Seal(seedOf(0), m)
		opens(t, r, m, true)
		for name, x := range turns(m) {
			matters := false
			for _, f := range shapes[k] {
				matters = matters || in[f] != "" && strings.HasPrefix(name, in[f])
			}
			if msg.Open(r, x) == matters {
				t.Errorf("kind %d, %s turned: %v", k, name, matters)
			}
		}
		for i := range 64 {
			x := m
			x.Sig[i] ^= 1 << (i % 8)
			opens(t, r, x, false)
		}
	}
}

// P16.1: the batch's digest is layer 11's, so that a proposal and what is prepared say one hash.
func TestProposeDigest(t *testing.T) {
	rnd := rand.New(rand.NewSource(168))
	for n := range 6 {
		us := updates(rnd, n)
		a := msg.Body(api.Msg{Kind: api.TagPropose, View: 4, Seq: 5, Batch: us})
		b := msg.Body(api.Msg{Kind: api.TagPrepare, View: 4, Seq: 5, Hash: hist.Digest(us...)})
		if !bytes.Equal(a, b) || len(a) != 48 {
			t.Errorf("%d updates: unlike bodies", n)
		}
	}
}
