package sha_test

import (
	"bytes"
	"crypto/sha256"
	"crypto/sha512"
	"encoding/hex"
	"fmt"
	"math/rand"
	"slices"
	"strings"
	"testing"

	"witan/api"
	"witan/sha"
)

// agree holds both digests of parts against those that Go's own library has of the parts as one.
func agree(t *testing.T, parts ...[]byte) {
	t.Helper()
	all := bytes.Join(parts, nil)
	if got, want := sha.Sum256(parts...), api.Hash(sha256.Sum256(all)); got != want {
		t.Errorf("Sum256 of %d bytes in %d parts: %x, not %x", len(all), len(parts), got, want)
	}
	if got, want := sha.Sum512(parts...), sha512.Sum512(all); got != want {
		t.Errorf("Sum512 of %d bytes in %d parts: %x, not %x", len(all), len(parts), got, want)
	}
}

// noise is so many bytes, the same ones for each seed.
func noise(seed int64, n int) []byte {
	b := make([]byte, n)
	rand.New(rand.NewSource(seed)).Read(b)
	return b
}

// TestPublished holds the digests against those that FIPS 180-4's examples and the chapter tell.
func TestPublished(t *testing.T) {
	short := "abcdbcdecdefdefgefghfghighijhijkijkljklmklmnlmnomnopnopq"
	long := "abcdefghbcdefghicdefghijdefghijkefghijklfghijklmghijklmnhijklmnoijklmnopjklmnopqklmnopqrlmnopqrsmnopqrstnopqrstu"
	for _, c := range []struct{ name, text, want256, want512 string }{
		{"nothing", "",
			"e3b0c44298fc1c149afbf4c8996fb92427ae41e4649b934ca495991b7852b855",
			"cf83e1357eefb8bdf1542850d66d8007d620e4050b5715dc83f4a921d36ce9ce47d0d13c5d85f2b0ff8318d2877eec2f63b931bd47417a81a538327af927da3e"},
		{"abc", "abc",
			"ba7816bf8f01cfea414140de5dae2223b00361a396177a9cb410ff61f20015ad",
			"ddaf35a193617abacc417349ae20413112e6fa4e89a97ea20a9eeee64b55d39a2192992a274fc1a836ba3c23a3feebbd454d4423643ce80e2a9ac94fa54ca49f"},
		{"56 letters", short,
			"248d6a61d20638b8e5c026930c3e6039a33ce45964ff2167f6ecedd419db06c1",
			"204a8fc6dda82f0a0ced7beb8e08a41657c16ef468b228a8279be331a703c33596fd15c13b1b07f9aa1d3bea57789ca031ad85c7a71dd70354ec631238ca3445"},
		{"112 letters", long,
			"cf5b16a778af8380036ce59e7b0492370b249b11e8f07a51afac45037afee9d1",
			"8e959b75dae313da8cf4f72814fc143f8f7779c6eb9f7fa17299aeadb6889018501d289e4900f7e4331b99dec4b5433ac7d329eeb6dd26545e96e55b874be909"},
		{"a million a", strings.Repeat("a", 1000000),
			"cdc76e5c9914fb9281a1c7e284d73e67f1809a48a497200e046d39ccc7112cd0",
			"e718483d0ce769644e2e42c7bc15b4638e1f98b13b2044285632a803afa973ebde0ff244877ea60a4cb0432ce577c31beb009c5c2c49aa2e4eadb217ad8cc09b"},
	} {
		h := sha.Sum256([]byte(c.text))
		if got := hex.EncodeToString(h[:]); got != c.want256 {
			t.Errorf("Sum256 of %s: %s, not %s", c.name, got, c.want256)
		}
		g := sha.Sum512([]byte(c.text))
		if got := hex.EncodeToString(g[:]); got != c.want512 {
			t.Errorf("Sum512 of %s: %s, not %s", c.name, got, c.want512)
		}
	}
}

// TestEdges: lengths at, below and above whole blocks, and those from which on the padding needs a block more.
func TestEdges(t *testing.T) {
	for _, n := range []int{0, 1, 54, 55, 56, 57, 62, 63, 64, 65, 110, 111, 112, 113, 118, 119, 120, 121, 126, 127, 128, 129, 183, 184, 191, 192, 193, 239, 240, 255, 256, 257} {
		t.Run(fmt.Sprint(n), func(t *testing.T) {
			agree(t, make([]byte, n))
			agree(t, bytes.Repeat([]byte{0xff}, n))
			agree(t, bytes.Repeat([]byte{0x80}, n))
			agree(t, noise(int64(n), n))
		})
	}
}

// TestLengths: each length up to eight of the greater blocks, so that every place of the padding and both low bytes of the length count.
func TestLengths(t *testing.T) {
	all := noise(1, 1024)
	for n := range len(all) + 1 {
		agree(t, all[:n])
	}
	for _, n := range []int{8191, 8192, 8193, 1<<16 - 1, 1 << 16, 1<<20 - 9, 1 << 20, 1<<21 + 5} {
		agree(t, noise(2, n))
	}
}

// TestBits: each bit of a message counts, in its place.
func TestBits(t *testing.T) {
	for _, n := range []int{32, 64, 128, 200} {
		b := make([]byte, n)
		for i := range 8 * n {
			b[i/8] ^= 1 << (i % 8)
			agree(t, b)
			b[i/8] ^= 1 << (i % 8)
		}
	}
}

// TestNoPart: no part, nil, empty parts are all the message of no bytes.
func TestNoPart(t *testing.T) {
	empty := []byte{}
	for _, parts := range [][][]byte{nil, {}, {nil}, {empty}, {nil, nil}, {empty, nil, empty}} {
		agree(t, parts...)
	}
	if sha.Sum256() != sha.Sum256(nil, empty) || sha.Sum512() != sha.Sum512(nil, empty) {
		t.Error("no part and empty parts are not the same")
	}
}

// TestTwoParts: each cut of messages that end before, at and behind blocks.
func TestTwoParts(t *testing.T) {
	for _, n := range []int{1, 55, 56, 64, 65, 111, 112, 128, 129, 300} {
		b := noise(3, n)
		for cut := range n + 1 {
			agree(t, b[:cut], b[cut:])
		}
	}
}

// TestEmptyParts: empty parts before, between and behind others change nothing.
func TestEmptyParts(t *testing.T) {
	for _, n := range []int{3, 63, 64, 128, 150} {
		b := noise(4, n)
		agree(t, nil, b)
		agree(t, b, nil)
		agree(t, b, []byte{}, b)
		agree(t, nil, b[:n/2], nil, []byte{}, b[n/2:], nil)
		if sha.Sum256(nil, b, []byte{}) != sha.Sum256(b) || sha.Sum512(nil, b, []byte{}) != sha.Sum512(b) {
			t.Errorf("%d bytes: empty parts changed the digest", n)
		}
	}
}

// TestManyCuts: messages cut into parts of all kinds of lengths.
func TestManyCuts(t *testing.T) {
	r := rand.New(rand.NewSource(5))
	for range 2000 {
		var parts [][]byte
		for range r.Intn(12) {
			parts = append(parts, noise(r.Int63(), r.Intn(1+[]int{0, 3, 70, 140, 400}[r.Intn(5)])))
		}
		agree(t, parts...)
	}
}

// TestBytewise: a part for each byte.
func TestBytewise(t *testing.T) {
	b := noise(6, 400)
	var parts [][]byte
	for i := range b {
		parts = append(parts, b[i:i+1])
		agree(t, parts...)
	}
}

// TestOrder: the parts stand behind one another as they are handed in, and where they are cut doesn't show.
func TestOrder(t *testing.T) {
	a, b := []byte("ab"), []byte("c")
	if sha.Sum256(a, b) == sha.Sum256(b, a) || sha.Sum512(a, b) == sha.Sum512(b, a) {
		t.Error("the order of parts doesn't count")
	}
	if sha.Sum256(a, b) != sha.Sum256([]byte("a"), []byte("bc")) || sha.Sum512(a, b) != sha.Sum512([]byte("a"), []byte("bc")) {
		t.Error("where parts are cut counts")
	}
	agree(t, a, b)
	agree(t, b, a)
}

// TestSharedParts: parts that share memory with one another are still parts of their own.
func TestSharedParts(t *testing.T) {
	b := noise(7, 200)
	agree(t, b, b, b)
	agree(t, b[10:100], b[:150], b[50:], b[:0])
}

// TestHandedIn: nothing handed in is changed, spare room included, and spare room is no part of the message.
func TestHandedIn(t *testing.T) {
	for _, n := range []int{0, 1, 55, 64, 100, 128, 200} {
		room := noise(8, 512)
		saved := slices.Clone(room)
		parts := make([][]byte, 3, 6)
		parts[0], parts[1], parts[2] = room[:n], room[200:200], room[256:256+n]
		want := [][]byte{saved[:n], nil, saved[256 : 256+n]}
		if sha.Sum256(parts...) != sha.Sum256(bytes.Join(want, nil)) || sha.Sum512(parts...) != sha.Sum512(bytes.Join(want, nil)) {
			t.Errorf("%d bytes: spare room counts", n)
		}
		if !bytes.Equal(room, saved) {
			t.Errorf("%d bytes: what was handed in is changed", n)
		}
		for i := range parts {
			if !bytes.Equal(parts[i], want[i]) {
				t.Errorf("%d bytes: part %d is another", n, i)
			}
		}
		for i, p := range parts[:cap(parts)][3:] {
			if p != nil {
				t.Errorf("%d bytes: the list's spare place %d is filled", n, i)
			}
		}
	}
}

// TestNothingKept: a call answers the same whatever was asked ahead of it, and whatever becomes of its parts later.
func TestNothingKept(t *testing.T) {
	a, b := noise(9, 70), noise(10, 131)
	h, g := sha.Sum256(a), sha.Sum512(a)
	wantH, wantG := h, g
	sha.Sum256(b)
	sha.Sum512(b)
	sha.Sum256()
	sha.Sum512()
	if sha.Sum256(a) != wantH || sha.Sum512(a) != wantG {
		t.Error("a digest hangs on what was asked before")
	}
	clear(a)
	if h != wantH || g != wantG {
		t.Error("an answer changed with its parts")
	}
	agree(t, a)
}

// TestMostParts: as many parts as a call may have.
func TestMostParts(t *testing.T) {
	parts := make([][]byte, 1<<20)
	agree(t, parts...)
	b := noise(11, 1<<20)
	for i := range parts {
		parts[i] = b[i : i+1]
	}
	agree(t, parts...)
}

// TestLongest: messages whose length in bits no longer goes into 32 of them.
func TestLongest(t *testing.T) {
	if testing.Short() {
		t.Skip("half a thousand million bytes")
	}
	parts := slices.Repeat([][]byte{noise(12, 1<<10)}, 1<<19)
	parts = append(parts, []byte("abc"))
	t.Run("256", func(t *testing.T) {
		t.Parallel()
		h := sha256.New()
		for _, p := range parts {
			h.Write(p)
		}
		if got := sha.Sum256(parts...); !bytes.Equal(got[:], h.Sum(nil)) {
			t.Errorf("%x, not %x", got, h.Sum(nil))
		}
	})
	t.Run("512", func(t *testing.T) {
		t.Parallel()
		h := sha512.New()
		for _, p := range parts {
			h.Write(p)
		}
		if got := sha.Sum512(parts...); !bytes.Equal(got[:], h.Sum(nil)) {
			t.Errorf("%x, not %x", got, h.Sum(nil))
		}
	})
}

// TestChain: digests of digests, so that all words of many blocks come in play.
func TestChain(t *testing.T) {
	h, g := sha.Sum256([]byte("chain")), sha.Sum512([]byte("chain"))
	for range 20000 {
		h, g = sha.Sum256(h[:], g[:]), sha.Sum512(g[:], h[:])
	}
	x, y := sha256.Sum256([]byte("chain")), sha512.Sum512([]byte("chain"))
	for range 20000 {
		x, y = sha256.Sum256(append(x[:], y[:]...)), sha512.Sum512(append(y[:], x[:]...))
	}
	if h != api.Hash(x) || g != y {
		t.Errorf("%x %x, not %x %x", h, g, x, y)
	}
}

// FuzzParts cuts a message at two places.
func FuzzParts(f *testing.F) {
	f.Add([]byte("abc"), uint16(1), uint16(2))
	f.Add(make([]byte, 56), uint16(0), uint16(55))
	f.Add(make([]byte, 240), uint16(64), uint16(128))
	f.Fuzz(func(t *testing.T, b []byte, x, y uint16) {
		i := int(x) % (len(b) + 1)
		j := i + int(y)%(len(b)-i+1)
		agree(t, b[:i], b[i:j], b[j:])
	})
}

func BenchmarkSum256(b *testing.B) {
	m := make([]byte, 65) // what a node of a tree has
	b.SetBytes(65)
	for b.Loop() {
		sha.Sum256(m)
	}
}

func BenchmarkSum512(b *testing.B) {
	m := make([]byte, 96)
	b.SetBytes(96)
	for b.Loop() {
		sha.Sum512(m)
	}
}
