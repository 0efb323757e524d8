package msg_test

import (
	"bytes"
	"encoding/binary"
	"encoding/hex"
	"math/rand"
	"runtime"
	"strings"
	"testing"

	"witan/api"
	"witan/msg"
)

// P16.2: bytes that this test has written out.
func TestBytesWrittenOut(t *testing.T) {
	for _, w := range writtenOut() {
		w.m.From, w.m.Sig = 5, full(0xee)
		want := hex.EncodeToString([]byte{byte(w.m.Kind)}) + "0000000000000005" + w.laid
		if w.m.Kind <= 7 {
			want += strings.Repeat("ee", 64)
		}
		if got := hex.EncodeToString(msg.Bytes(w.m)); got != want {
			t.Errorf("kind %d: the bytes %s, not %s", w.m.Kind, got, want)
		}
	}
}

// The chapter's example.
func TestExample(t *testing.T) {
	b := msg.Bytes(api.Msg{Kind: api.TagPrepare, From: 1, View: 2, Seq: 3})
	if len(b) != 1+8+8+8+32+64 {
		t.Errorf("%d bytes", len(b))
	}
	parses(t, b, api.Msg{Kind: api.TagPrepare, From: 1, View: 2, Seq: 3}, api.OK)
	refuses(t, b[:len(b)-1], api.ErrShort)
	refuses(t, []byte{12}, api.ErrKind)
}

// P16.2: messages of all kinds against the chapter's words; fields that a kind hasn't aren't laid.
func TestBytes(t *testing.T) {
	rnd := rand.New(rand.NewSource(171))
	for _, k := range kinds {
		for range 40 {
			m := random(rnd, k)
			want := laid(m)
			for _, m := range []api.Msg{m, only(m)} {
				if got := msg.Bytes(m); !bytes.Equal(got, want) {
					t.Fatalf("kind %d: %d bytes, not %d, or others", k, len(got), len(want))
				}
			}
		}
	}
}

// P16.2: of another kind the kind and From alone.
func TestBytesOtherKinds(t *testing.T) {
	rnd := rand.New(rand.NewSource(172))
	for _, k := range others() {
		m := random(rnd, k)
		for _, from := range []int{0, 6, 7, 258, -1} {
			m.From = from
			if got, want := msg.Bytes(m), append([]byte{byte(k)}, number(from)...); !bytes.Equal(got, want) {
				t.Errorf("kind %d: %x, not %x", k, got, want)
			}
		}
	}
}

// P16.2: bounds aren't asked of what is laid.
func TestBytesAnyBounds(t *testing.T) {
	rnd := rand.New(rand.NewSource(173))
	for _, m := range beyond(rnd) {
		got := msg.Bytes(m)
		if !bytes.Equal(got, laid(m)) {
			t.Errorf("kind %d: %d bytes that aren't these", m.Kind, len(got))
		}
		if read, err := msg.Parse(got); err == api.OK && !same(read, only(m)) {
			t.Errorf("kind %d: read as another one", m.Kind)
		}
	}
}

// views are so many messages of the kind TagView, each within the one ahead, around the innermost.
func views(n int, inner api.Msg) api.Msg {
	for range n {
		inner = api.Msg{Kind: api.TagView, From: 2, View: 3, Changes: []api.Msg{inner}, Sig: full(0x99)}
	}
	return inner
}

// nested asks that bytes are those of views(n, inner).
func nested(t *testing.T, b []byte, n int, inner []byte) {
	t.Helper()
	head := append([]byte{7}, append(number(2), append(number(3), number(1)...)...)...)
	sig := full(0x99)
	for i := range n {
		if len(b) < 97 || !bytes.HasPrefix(b, head) || binary.BigEndian.Uint64(b[25:]) != uint64(len(b)-97) || !bytes.HasSuffix(b, sig[:]) {
			t.Fatalf("%d deep: %d bytes that aren't a view's", i, len(b))
		}
		b = b[33 : len(b)-64]
	}
	if !bytes.Equal(b, inner) {
		t.Errorf("the innermost: %d bytes", len(b))
	}
}

// spent is how many bytes were asked of memory meanwhile.
func spent(f func()) uint64 {
	var a, b runtime.MemStats
	runtime.ReadMemStats(&a)
	f()
	runtime.ReadMemStats(&b)
	return b.TotalAlloc - a.TotalAlloc
}

// Messages nested as deep as the document lets them: each call ends, and takes no more than what is there.
func TestNested(t *testing.T) {
	const deep = 1 << 16
	inner := api.Msg{Kind: api.TagChange, Chunk: []byte("passed over")}
	m := views(deep, inner)
	took := spent(func() {
		nested(t, msg.Bytes(m), deep, laid(inner))
		body := msg.Body(m)
		if !bytes.Equal(body[:16], append(number(3), number(1)...)) {
			t.Errorf("the body begins with %x", body[:16])
		}
		nested(t, body[24:], deep-1, laid(inner))
		x := msg.Seal(seedOf(0), m)
		x.From = 0
		opens(t, ringOf(t, 1), x, true)
		if x.Sig != sealed(seedOf(0), api.TagView, body) {
			t.Error("another signature")
		}
		y := &x
		for range deep {
			if len(y.Changes) != 1 {
				t.Fatal("what was sealed lost its changes")
			}
			y = &y.Changes[0]
		}
		if string(y.Chunk) != "passed over" {
			t.Error("the innermost changed")
		}
		refuses(t, msg.Bytes(m), api.ErrBig)
	})
	if took > 1<<30 {
		t.Errorf("%d bytes of memory for messages of 2^16 levels", took)
	}
}

// long are messages with a list of n parts.
func long(n int) []api.Msg {
	return []api.Msg{
		{Kind: api.TagView, Changes: make([]api.Msg, n)},
		{Kind: api.TagChange, Proofs: make([]api.Proof, n)},
		{Kind: api.TagPropose, Batch: make([]api.Update, n)},
		{Kind: api.TagRequest, Batch: make([]api.Update, n)},
		{Kind: api.TagLatest, Cert: api.Cert{Signers: make([]int, n)}},
		{Kind: api.TagHave, Chunk: make([]byte, n+1)},
	}
}

// Lists of 2^20 parts, which no reader takes.
func TestManyParts(t *testing.T) {
	if testing.Short() {
		t.Skip("takes seconds")
	}
	const n = 1 << 20
	wide := map[api.Tag]int{7: 8 + 9, 6: 8 + 8 + 8 + 8 + 8 + 16, 2: 136, 8: 136, 9: 72, 11: 1}
	for _, m := range long(n) {
		b := msg.Bytes(m)
		if len(b) < n*wide[m.Kind] || len(b) > n*wide[m.Kind]+200 {
			t.Errorf("kind %d: %d bytes", m.Kind, len(b))
		}
		refuses(t, b, api.ErrBig)
	}
	r := ringOf(t, 1)
	for _, m := range long(n / 8) {
		opens(t, r, msg.Seal(seedOf(0), m), isSigned(m.Kind))
	}
}

// A message's bytes, body and digest hang on it alone, not on what was asked ahead.
func TestSameEachTime(t *testing.T) {
	rnd := rand.New(rand.NewSource(174))
	for _, k := range kinds {
		m := random(rnd, k)
		b, body, x := msg.Bytes(m), msg.Body(m), msg.Seal(seedOf(4), m)
		for range 3 {
			msg.Bytes(random(rnd, kinds[rnd.Intn(len(kinds))]))
			if !bytes.Equal(msg.Bytes(m), b) || !bytes.Equal(msg.Body(m), body) || !same(msg.Seal(seedOf(4), m), x) {
				t.Errorf("kind %d: not the same each time", k)
			}
		}
	}
}
