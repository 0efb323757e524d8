package sign_test

import (
	"bytes"
	"crypto/ed25519"
	"encoding/hex"
	"math/rand"
	"slices"
	"testing"

	"witan/api"
	"witan/sign"
)

// unhex reads hexadecimal digits.
func unhex(t testing.TB, text string) []byte {
	t.Helper()
	b, err := hex.DecodeString(text)
	if err != nil {
		t.Fatal(err)
	}
	return b
}

// noise answers n bytes of anything.
func noise(r *rand.Rand, n int) []byte {
	b := make([]byte, n)
	r.Read(b)
	return b
}

// library answers the key and the signature that Go's own Ed25519 has.
func library(seed api.Hash, m []byte) (api.Hash, api.Sig) {
	k := ed25519.NewKeyFromSeed(seed[:])
	return api.Hash(k.Public().(ed25519.PublicKey)), api.Sig(ed25519.Sign(k, m))
}

// cut answers b in parts, some of them empty.
func cut(r *rand.Rand, b []byte) [][]byte {
	var parts [][]byte
	for len(b) > 0 {
		n := r.Intn(min(len(b), 40) + 1)
		parts, b = append(parts, b[:n:n]), b[n:]
	}
	return parts
}

// The chapter's example.
func TestExample(t *testing.T) {
	seed := api.Hash(unhex(t, "9d61b19deffd5a60ba844af492ec2cc44449c5697b326919703bac031cae7f60"))
	if k := sign.Public(seed); k != api.Hash(unhex(t, "d75a980182b10ab7d54bfed3c964073a0ee172f3daa62325af021a68f707511a")) {
		t.Errorf("the key: %x", k)
	}
	if s := sign.Sign(seed); !bytes.HasPrefix(s[:], unhex(t, "e5564300c360ac72")) {
		t.Errorf("the signature of nothing: %x", s)
	}
}

// P6.1, P6.2: what RFC 8032 has published (section 7.1).
func TestPublished(t *testing.T) {
	for _, x := range []struct{ seed, key, m, sig string }{
		{"9d61b19deffd5a60ba844af492ec2cc44449c5697b326919703bac031cae7f60", "d75a980182b10ab7d54bfed3c964073a0ee172f3daa62325af021a68f707511a", "", "e5564300c360ac729086e2cc806e828a84877f1eb8e5d974d873e065224901555fb8821590a33bacc61e39701cf9b46bd25bf5f0595bbe24655141438e7a100b"},
		{"4ccd089b28ff96da9db6c346ec114e0f5b8a319f35aba624da8cf6ed4fb8a6fb", "3d4017c3e843895a92b70aa74d1b7ebc9c982ccf2ec4968cc0cd55f12af4660c", "72", "92a009a9f0d4cab8720e820b5f642540a2b27b5416503f8fb3762223ebdb69da085ac1e43e15996e458f3613d0f11d8c387b2eaeb4302aeeb00d291612bb0c00"},
		{"c5aa8df43f9f837bedb7442f31dcb7b166d38535076f094b85ce3a2e0b4458f7", "fc51cd8e6218a1a38da47ed00230f0580816ed13ba3303ac5deb911548908025", "af82", "6291d657deec24024827e69c3abe01a30ce548a284743a445e3680d7db5ac3ac18ff9b538d16f290ae67f760984dc6594a7c15e9716ed28dc027beceea1ec40a"},
		{"833fe62409237b9d62ec77587520911e9a759cec1d19755b7da901b96dca3d42", "ec172b93ad5e563bf4932c70e1245034c35467ef2efd4d64ebf819683467e2bf", "ddaf35a193617abacc417349ae20413112e6fa4e89a97ea20a9eeee64b55d39a2192992a274fc1a836ba3c23a3feebbd454d4423643ce80e2a9ac94fa54ca49f", "dc2a4459e7369633a52b1bf277839a00201009a3efbf3ecb69bea2186c26b58909351fc9ac90b3ecfdfbc7c66431e0303dca179c138ac17ad9bef1177331a704"},
	} {
		seed, m := api.Hash(unhex(t, x.seed)), unhex(t, x.m)
		key, sig := sign.Public(seed), sign.Sign(seed, m)
		if hex.EncodeToString(key[:]) != x.key || hex.EncodeToString(sig[:]) != x.sig || !sign.Verify(key, sig, m) {
			t.Errorf("the seed %s: %x %x", x.seed, key, sig)
		}
	}
}

// P6.1, P6.3: keys and signatures as the library has them, of messages of all lengths about a block's; each signed by one is verified by the other.
func TestLibrary(t *testing.T) {
	r := rand.New(rand.NewSource(61))
	for n := range 300 {
		seed, m := api.Hash(noise(r, 32)), noise(r, n)
		key, sig := library(seed, m)
		if k := sign.Public(seed); k != key {
			t.Fatalf("the key of %x: %x, not %x", seed, k, key)
		}
		if s := sign.Sign(seed, m); s != sig {
			t.Fatalf("%x signs %x: %x, not %x", seed, m, s, sig)
		}
		if !sign.Verify(key, sig, m) || !sign.Verify(key, sig, cut(r, m)...) {
			t.Fatalf("%x of %x: not verified", sig, m)
		}
	}
}

// P6.1: seeds of noughts, of ones, of one bit each.
func TestSeeds(t *testing.T) {
	full := api.Hash(bytes.Repeat([]byte{0xff}, 32))
	seeds := []api.Hash{{}, full}
	for i := range 256 {
		var h api.Hash
		h[i/8] = 1 << (i % 8)
		seeds = append(seeds, h)
	}
	m := []byte("seeds")
	for _, seed := range seeds {
		key, sig := library(seed, m)
		if sign.Public(seed) != key || sign.Sign(seed, m) != sig || !sign.Verify(key, sig, m) {
			t.Errorf("the seed %x", seed)
		}
	}
}

// P6.1: it counts what all parts are together, not where one ends.
func TestParts(t *testing.T) {
	r := rand.New(rand.NewSource(62))
	seed := api.Hash{62}
	for _, n := range []int{1, 2, 31, 32, 63, 64, 65, 95, 96, 97, 127, 128, 129, 700} {
		m := noise(r, n)
		key, sig := library(seed, m)
		for range 6 {
			parts := cut(r, m)
			if s := sign.Sign(seed, parts...); s != sig || !sign.Verify(key, sig, parts...) {
				t.Errorf("%d bytes in %d parts: %x", n, len(parts), s)
			}
		}
		if sign.Verify(key, sig, m[1:], m[:1]) != bytes.Equal(append(m[1:len(m):len(m)], m[0]), m) {
			t.Errorf("%d bytes in another order", n)
		}
	}
}

// P6.1: no parts, parts that are nil, empty ones: they sign nothing.
func TestNoParts(t *testing.T) {
	seed := api.Hash{63}
	key, sig := library(seed, nil)
	for i, parts := range [][][]byte{nil, {}, {nil}, {{}}, {nil, {}, nil}, make([][]byte, 100)} {
		if sign.Sign(seed, parts...) != sig || !sign.Verify(key, sig, parts...) {
			t.Errorf("nothing, case %d", i)
		}
		if sign.Verify(key, sig, append(slices.Clone(parts), []byte{0})...) {
			t.Errorf("nothing and a nought, case %d", i)
		}
	}
}

// P6.1: as many parts as there may be.
func TestManyParts(t *testing.T) {
	r := rand.New(rand.NewSource(64))
	m := noise(r, 1<<20)
	parts := make([][]byte, len(m))
	for i := range parts {
		parts[i] = m[i : i+1]
	}
	seed := api.Hash{64}
	key, sig := library(seed, m)
	if sign.Sign(seed, parts...) != sig || !sign.Verify(key, sig, parts...) || !sign.Verify(key, sig, m) {
		t.Error("2^20 parts")
	}
	m[1<<19]++
	if sign.Verify(key, sig, parts...) || sign.Sign(seed, parts...) == sig {
		t.Error("one of 2^20 parts is another")
	}
}

// What is handed in stays as it is, the list's and the parts' spare room too; and nothing is kept of it.
func TestHandedIn(t *testing.T) {
	bytesOf := func() [][]byte {
		all := make([][]byte, 8)
		for i := range all {
			all[i] = bytes.Repeat([]byte{byte(i)}, 9)[:i]
		}
		return all
	}
	all, before := bytesOf(), bytesOf()
	seed := api.Hash{65}
	key := sign.Public(seed)
	for n := range len(all) + 1 {
		sig := sign.Sign(seed, all[:n]...)
		if !sign.Verify(key, sig, all[:n]...) {
			t.Errorf("%d parts", n)
		}
	}
	for i := range all {
		if len(all[i]) != i || !bytes.Equal(all[i][:9], before[i][:9]) {
			t.Errorf("part %d: %v", i, all[i][:9])
		}
	}
	sig := sign.Sign(seed, all...)
	all[7][3]++
	if sign.Verify(key, sig, all...) || sign.Sign(seed, all...) == sig {
		t.Error("a part that changed")
	}
	all[7][3]--
	if !sign.Verify(key, sig, all...) || sign.Sign(seed, all...) != sig {
		t.Error("a part that changed back")
	}
}

// P6.3: with one bit turned in the message, the key or the signature it isn't verified.
func TestTurned(t *testing.T) {
	r := rand.New(rand.NewSource(66))
	for _, n := range []int{0, 1, 40} {
		seed, m := api.Hash(noise(r, 32)), noise(r, n)
		key, sig := sign.Public(seed), sign.Sign(seed, m)
		check := func(what string, bit int) {
			t.Helper()
			if sign.Verify(key, sig, m) {
				t.Errorf("%s, bit %d turned: verified", what, bit)
			}
		}
		for i := range 8 * n {
			m[i/8] ^= 1 << (i % 8)
			check("the message", i)
			m[i/8] ^= 1 << (i % 8)
		}
		for i := range 256 {
			key[i/8] ^= 1 << (i % 8)
			check("the key", i)
			key[i/8] ^= 1 << (i % 8)
		}
		for i := range 512 {
			sig[i/8] ^= 1 << (i % 8)
			check("the signature", i)
			sig[i/8] ^= 1 << (i % 8)
		}
		if !sign.Verify(key, sig, m) {
			t.Error("turned back: not verified")
		}
	}
}

// P6.3: of signatures by some seeds of some messages each is verified with its own alone.
func TestOthers(t *testing.T) {
	seeds := []api.Hash{{}, {1}, {31: 1}, {2}}
	messages := [][]byte{nil, {0}, {0, 0}, []byte("a"), []byte("b"), []byte("ab"), []byte("aba")}
	for i, seed := range seeds {
		for j, m := range messages {
			sig := sign.Sign(seed, m)
			var swapped, doubled api.Sig
			copy(swapped[:32], sig[32:])
			copy(swapped[32:], sig[:32])
			copy(doubled[:], sig[:32])
			copy(doubled[32:], sig[:32])
			for x, other := range seeds {
				key := sign.Public(other)
				for y, n := range messages {
					if sign.Verify(key, sig, n) != (i == x && j == y) {
						t.Errorf("the seed %d's of %d, with the seed %d's key and %d", i, j, x, y)
					}
				}
				if sign.Verify(key, swapped, m) || sign.Verify(key, doubled, m) || sign.Verify(key, api.Sig{}, m) {
					t.Errorf("the seed %d's of %d, its halves elsewhere", i, j)
				}
			}
		}
	}
}

// P6.3: halves of two signatures by one seed are no signature.
func TestMixedHalves(t *testing.T) {
	seed := api.Hash{67}
	key := sign.Public(seed)
	one, two := sign.Sign(seed, []byte("one")), sign.Sign(seed, []byte("two"))
	mixed := one
	copy(mixed[32:], two[32:])
	if sign.Verify(key, mixed, []byte("one")) || sign.Verify(key, mixed, []byte("two")) {
		t.Error("mixed halves: verified")
	}
}

// The same answers, asked again and with others between.
func TestAgain(t *testing.T) {
	r := rand.New(rand.NewSource(68))
	type row struct {
		seed, key api.Hash
		m         []byte
		sig       api.Sig
	}
	var rows []row
	for range 10 {
		x := row{seed: api.Hash(noise(r, 32)), m: noise(r, r.Intn(200))}
		x.key, x.sig = sign.Public(x.seed), sign.Sign(x.seed, x.m)
		rows = append(rows, x)
	}
	for range 50 {
		x := rows[r.Intn(len(rows))]
		if sign.Public(x.seed) != x.key || sign.Sign(x.seed, x.m) != x.sig || !sign.Verify(x.key, x.sig, x.m) {
			t.Errorf("the seed %x: another answer", x.seed)
		}
	}
}

// FuzzSign holds all calls against the library's, of a message cut at two places.
func FuzzSign(f *testing.F) {
	f.Add([]byte("seed"), []byte("message"), uint16(1), uint16(3))
	f.Add([]byte{}, []byte{}, uint16(0), uint16(0))
	f.Fuzz(func(t *testing.T, s, m []byte, x, y uint16) {
		var seed api.Hash
		copy(seed[:], s)
		i := int(x) % (len(m) + 1)
		j := i + int(y)%(len(m)-i+1)
		parts := [][]byte{m[:i], m[i:j], m[j:]}
		key, sig := library(seed, m)
		if sign.Public(seed) != key || sign.Sign(seed, parts...) != sig || !sign.Verify(key, sig, parts...) {
			t.Errorf("%x of %x, cut at %d and %d", seed, m, i, j)
		}
	})
}

func BenchmarkSign(b *testing.B) {
	m := make([]byte, 100)
	for b.Loop() {
		sign.Sign(api.Hash{1}, m)
	}
}

func BenchmarkVerify(b *testing.B) {
	m := make([]byte, 100)
	key, sig := sign.Public(api.Hash{1}), sign.Sign(api.Hash{1}, m)
	for b.Loop() {
		if !sign.Verify(key, sig, m) {
			b.Fatal("not verified")
		}
	}
}
