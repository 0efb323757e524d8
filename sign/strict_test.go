package sign_test

import (
	"crypto/ed25519"
	"crypto/sha512"
	"math/big"
	"math/rand"
	"slices"
	"testing"

	"witan/api"
	"witan/curve"
	"witan/sign"
)

// power2 answers 2^n + more.
func power2(n uint, more int64) *big.Int {
	x := new(big.Int).Lsh(big.NewInt(1), n)
	return x.Add(x, big.NewInt(more))
}

// prime answers p.
func prime() *big.Int {
	return power2(255, -19)
}

// order answers L.
func order() *big.Int {
	rest, ok := new(big.Int).SetString("27742317777372353535851937790883648493", 10)
	if !ok {
		panic("no number")
	}
	return rest.Add(rest, power2(252, 0))
}

// laid answers n's 32 bytes, the least first.
func laid(n *big.Int) api.Hash {
	var h api.Hash
	n.FillBytes(h[:])
	slices.Reverse(h[:])
	return h
}

// read answers the number whose bytes are b, the least first.
func read(b []byte) *big.Int {
	b = slices.Clone(b)
	slices.Reverse(b)
	return new(big.Int).SetBytes(b)
}

// minus answers -n modulo L.
func minus(n *big.Int) *big.Int {
	x := new(big.Int).Neg(n)
	return x.Mod(x, order())
}

// bases answers n base points.
func bases(n *big.Int) curve.Point {
	return curve.Base().Mul(laid(n))
}

// small answers the Small point i, of eight: i times one whose order is 8.
func small(t testing.TB, i int) curve.Point {
	t.Helper()
	p, err := curve.Decode(api.Hash{
		0xc7, 0x17, 0x6a, 0x70, 0x3d, 0x4d, 0xd8, 0x4f, 0xba, 0x3c, 0x0b, 0x76, 0x0d, 0x10, 0x67, 0x0f,
		0x2a, 0x20, 0x53, 0xfa, 0x2c, 0x39, 0xcc, 0xc6, 0x4e, 0xc7, 0xfd, 0x77, 0x92, 0xac, 0x03, 0x7a,
	})
	if err != api.OK {
		t.Fatal("no point of order 8")
	}
	return p.Mul(api.Hash{byte(i)})
}

// made answers the signature whose first half is point, and whose S is r + k a modulo L.
func made(point, key api.Hash, r, a *big.Int, m []byte) api.Sig {
	digest := sha512.Sum512(slices.Concat(point[:], key[:], m))
	s := read(digest[:]) // the digest's number needs no remainder here: S's has it
	s.Mul(s, a).Add(s, r).Mod(s, order())
	h := laid(s)
	return api.Sig(slices.Concat(point[:], h[:]))
}

// fits tells whether the library, which doesn't mind what kind of point the key is, takes the signature.
func fits(key api.Hash, sig api.Sig, m []byte) bool {
	return ed25519.Verify(key[:], m, sig[:])
}

// P6.1: with a usual key, made answers what Sign does: the chapter's words.
func TestMade(t *testing.T) {
	rnd := rand.New(rand.NewSource(71))
	for range 20 {
		seed, m := api.Hash(noise(rnd, 32)), noise(rnd, rnd.Intn(100))
		long := sha512.Sum512(seed[:])
		number := api.Hash(long[:32])
		number[0] &= 0xf8
		number[31] = number[31]&0x7f | 0x40
		short := sha512.Sum512(slices.Concat(long[32:], m))
		r := read(short[:])
		r.Mod(r, order())
		a := read(number[:])
		if key := bases(a).Hash(); key != sign.Public(seed) || made(bases(r).Hash(), key, r, a, m) != sign.Sign(seed, m) {
			t.Fatalf("the seed %x", seed)
		}
	}
}

// P6.2: a Small key verifies nothing, though the rest fits.
func TestSmallKey(t *testing.T) {
	rnd := rand.New(rand.NewSource(72))
	for i := range 8 {
		key := small(t, i).Hash()
		found := 0
		for j := 0; j < 8*20; j++ {
			r, m := new(big.Int).Rand(rnd, order()), noise(rnd, 10)
			sig := made(bases(r).Add(small(t, j)).Hash(), key, r, new(big.Int), m)
			if fits(key, sig, m) {
				found++
			}
			if sign.Verify(key, sig, m) {
				t.Fatalf("the Small key %d verified", i)
			}
		}
		if found == 0 {
			t.Errorf("the Small key %d: nothing that fits was tried", i)
		}
	}
}

// P6.2: bytes that stand for a Small point in a form that isn't its own are no key either.
func TestSmallKeyOtherForms(t *testing.T) {
	rnd := rand.New(rand.NewSource(73))
	found := 0
	for _, y := range []*big.Int{new(big.Int), big.NewInt(1), power2(255, -20), prime(), power2(255, -18)} {
		for odd := range 2 {
			key := laid(y)
			key[31] |= byte(odd << 7)
			for i := range 32 {
				r, m := new(big.Int).Rand(rnd, order()), noise(rnd, 10)
				sig := made(bases(r).Add(small(t, i)).Hash(), key, r, new(big.Int), m)
				if fits(key, sig, m) {
					found++
				}
				if sign.Verify(key, sig, m) {
					t.Fatalf("the key %x verified", key)
				}
			}
		}
	}
	if found < 20 {
		t.Errorf("%d that fit were tried", found)
	}
}

// P6.2: a key that isn't Small, but whose order is another than L, is a key: what fits is verified, what fits only 8 times over isn't.
func TestMixedKey(t *testing.T) {
	rnd := rand.New(rand.NewSource(74))
	for i := range 8 {
		a := new(big.Int).Rand(rnd, order())
		owner := bases(a).Add(small(t, i))
		key := owner.Hash()
		found, missed := 0, 0
		for j := range 64 {
			r, m := new(big.Int).Rand(rnd, order()), noise(rnd, 10)
			point := bases(r).Add(small(t, j))
			sig := made(point.Hash(), key, r, a, m)
			want := fits(key, sig, m)
			if got := sign.Verify(key, sig, m); got != want {
				t.Fatalf("the key with the Small point %d, R with %d: %v", i, j%8, got)
			}
			if want {
				found++
			} else {
				missed++
			}
		}
		if found == 0 || missed == 0 {
			t.Errorf("the key with the Small point %d: %d fit, %d don't", i, found, missed)
		}
	}
}

// P6.2: R may be a Small point itself, if it fits; in its own form alone.
func TestSmallR(t *testing.T) {
	rnd := rand.New(rand.NewSource(75))
	a := new(big.Int).Rand(rnd, order())
	key := bases(a).Hash()
	m := []byte("R")
	neutral := curve.Point{}.Hash()
	if sig := made(neutral, key, new(big.Int), a, m); !sign.Verify(key, sig, m) || !fits(key, sig, m) {
		t.Error("R neutral: not verified")
	}
	for _, y := range []*big.Int{big.NewInt(1), power2(255, -18)} { // 1, and p + 1
		for odd := range 2 {
			point := laid(y)
			point[31] |= byte(odd << 7)
			sig := made(point, key, new(big.Int), a, m)
			if sign.Verify(key, sig, m) != (point == neutral) {
				t.Errorf("R as %x", point)
			}
		}
	}
	for i := 1; i < 8; i++ {
		if sig := made(small(t, i).Hash(), key, new(big.Int), a, m); sign.Verify(key, sig, m) {
			t.Errorf("R the Small point %d: verified", i)
		}
	}
	for i := 1; i < 8; i++ { // a key with the Small point that makes up for it
		found := 0
		mixed := bases(a).Add(small(t, i)).Hash()
		for j := range 8 * 20 {
			m := []byte{byte(i), byte(j)}
			sig := made(small(t, j).Hash(), mixed, new(big.Int), a, m)
			want := fits(mixed, sig, m)
			if sign.Verify(mixed, sig, m) != want {
				t.Errorf("R the Small point %d, the key's %d", j%8, i)
			}
			if want {
				found++
			}
		}
		if found == 0 {
			t.Errorf("the key with the Small point %d: none fits", i)
		}
	}
}

// P6.2: S is below L, though others would say the same number modulo L; nor may bits be set above it.
func TestGreatS(t *testing.T) {
	rnd := rand.New(rand.NewSource(76))
	seeds := []api.Hash{{}, api.Hash(noise(rnd, 32)), api.Hash(noise(rnd, 32))}
	for _, seed := range seeds {
		m := noise(rnd, 20)
		key, sig := sign.Public(seed), sign.Sign(seed, m)
		s := read(sig[32:])
		if s.Cmp(order()) >= 0 {
			t.Fatalf("S is %v", s)
		}
		more := 0
		for s.Add(s, order()); s.BitLen() <= 256; s.Add(s, order()) {
			h := laid(s)
			if sign.Verify(key, api.Sig(slices.Concat(sig[:32], h[:])), m) {
				t.Errorf("S and %d L more: verified", more+1)
			}
			more++
		}
		if more < 14 {
			t.Errorf("%d numbers were tried", more)
		}
		for i := 1; i < 16; i++ {
			other := sig
			other[63] ^= byte(i << 4)
			if sign.Verify(key, other, m) {
				t.Errorf("S with the bits %x above: verified", i)
			}
		}
	}
}

// P6.2: bytes that are no point are no key, whatever the signature.
func TestNoKey(t *testing.T) {
	rnd := rand.New(rand.NewSource(78))
	m := []byte("no key")
	sig := sign.Sign(api.Hash{78}, m)
	var keys []api.Hash
	for i := range int64(19) { // y not below p
		keys = append(keys, laid(new(big.Int).Add(prime(), big.NewInt(i))))
	}
	keys = append(keys, api.Hash{2}, api.Hash{31: 0x80}, api.Hash{0: 1, 31: 0x80})
	for range 40 {
		keys = append(keys, api.Hash(noise(rnd, 32)))
	}
	none := 0
	for _, key := range keys {
		if _, err := curve.Decode(key); err != api.OK {
			none++
		}
		if sign.Verify(key, sig, m) || sign.Verify(key, api.Sig{}, m) || sign.Verify(key, made(key, key, new(big.Int), new(big.Int), m), m) {
			t.Errorf("the key %x verified", key)
		}
	}
	if none < 30 {
		t.Errorf("%d of the keys are no points", none)
	}
}

// P6.2: bytes that are no point are no R; nor is that of the negative, with S's negative.
func TestNoR(t *testing.T) {
	rnd := rand.New(rand.NewSource(79))
	a, r := new(big.Int).Rand(rnd, order()), new(big.Int).Rand(rnd, order())
	key := bases(a).Hash()
	m := []byte("no R")
	for _, point := range []api.Hash{{}, {2}, laid(prime()), laid(power2(256, -1)), bases(r).Neg().Hash()} {
		if sign.Verify(key, made(point, key, r, a, m), m) {
			t.Errorf("R %x: verified", point)
		}
	}
	for _, x := range []struct{ r, a *big.Int }{{r, minus(a)}, {minus(r), a}, {minus(r), minus(a)}, {a, r}} {
		if sign.Verify(key, made(bases(r).Hash(), key, x.r, x.a, m), m) {
			t.Errorf("other numbers: verified")
		}
	}
	if !sign.Verify(key, made(bases(r).Hash(), key, r, a, m), m) {
		t.Error("the right numbers: not verified")
	}
}
