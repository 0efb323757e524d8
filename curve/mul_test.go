package curve_test

import (
	"crypto/ed25519"
	"crypto/sha512"
	"encoding/hex"
	"math/big"
	"math/rand"
	"testing"

	"witan/api"
	"witan/curve"
)

// greats answers numbers at which digits, bytes, L, p or the 32 bytes begin or end.
func greats() []*big.Int {
	one := big.NewInt(1)
	var out []*big.Int
	for _, n := range []uint{8, 63, 128, 248, 251, 252, 253, 254, 255} {
		x := new(big.Int).Lsh(one, n)
		out = append(out, x, new(big.Int).Sub(x, one), new(big.Int).Add(x, one))
	}
	all := new(big.Int).Sub(new(big.Int).Lsh(one, 256), one)
	l := order()
	for i := range int64(3) {
		out = append(out, new(big.Int).Add(l, big.NewInt(i-1)), new(big.Int).Sub(all, big.NewInt(i)))
	}
	for i := range int64(14) { // L as often as it goes
		out = append(out, new(big.Int).Mul(l, big.NewInt(i+2)))
	}
	third := new(big.Int).Div(all, big.NewInt(3)) // every other bit
	fifteenth := new(big.Int).Div(all, big.NewInt(15))
	return append(out, prime(), third, new(big.Int).Lsh(third, 1), fifteenth, new(big.Int).Lsh(fifteenth, 3))
}

// hashOf reads 64 hexadecimal digits.
func hashOf(t testing.TB, text string) api.Hash {
	t.Helper()
	b, err := hex.DecodeString(text)
	if err != nil || len(b) != 32 {
		t.Fatalf("no hash: %s", text)
	}
	return api.Hash(b)
}

// P5.1: so many of a point are its sum so many times over.
func TestMulFew(t *testing.T) {
	for _, p := range points(t) {
		a, b, q := decoded(t, p.hash()), curve.Point{}, neutral()
		for n := range 70 {
			h := laid(big.NewInt(int64(n)))
			same(t, "Mul", a.Mul(h), q)
			if b.Hash() != q.hash() {
				t.Fatalf("%d sums: %x", n, b.Hash())
			}
			same(t, "Both of a and none", curve.Both(api.Hash{}, a, h), q)
			b, q = b.Add(a), q.plus(p)
		}
	}
}

// P5.1: n isn't taken modulo L: it counts whole, of points of every order.
func TestMulMany(t *testing.T) {
	r := rand.New(rand.NewSource(54))
	ns := greats()
	for range 12 {
		ns = append(ns, read(anyHash(r)))
	}
	ps := points(t)
	for _, p := range []pair{base(), ps[1], ps[4], ps[len(ps)-1]} {
		a := decoded(t, p.hash())
		for _, n := range ns {
			same(t, "Mul of "+n.String(), a.Mul(laid(n)), p.many(n))
		}
	}
}

// P5.1: each bit of n counts, at its place.
func TestMulEachBit(t *testing.T) {
	p := base().plus(torsion(t)[1])
	a, b := decoded(t, p.hash()), curve.Base()
	q, c := p, base()
	for i := range 256 {
		var h api.Hash
		h[i/8] = 1 << (i % 8)
		same(t, "Mul", a.Mul(h), q)
		same(t, "Both of a", curve.Both(api.Hash{}, a, h), q)
		same(t, "Both of the base point", curve.Both(h, a, api.Hash{}), c)
		same(t, "Both", curve.Both(h, b, h), c.plus(c))
		q, c = q.plus(q), c.plus(c)
	}
}

// P5.1: Both, of numbers that are alike, unlike, great, small, none.
func TestBoth(t *testing.T) {
	r := rand.New(rand.NewSource(55))
	ns := []*big.Int{new(big.Int), big.NewInt(1), big.NewInt(30), greats()[len(greats())-1], new(big.Int).Sub(order(), big.NewInt(1)), read(api.Hash{31: 255}), read(anyHash(r)), read(anyHash(r))}
	ps := points(t)
	for _, p := range []pair{neutral(), base(), base().minus(), ps[1], ps[len(ps)-1]} {
		a := decoded(t, p.hash())
		for _, n := range ns {
			b := base().many(n)
			for _, m := range ns {
				same(t, "Both of "+n.String()+" and "+m.String(), curve.Both(laid(n), a, laid(m)), b.plus(p.many(m)))
			}
		}
	}
}

// P5.1: Both takes base points and the others for what they are: it is what Mul and Add give.
func TestBothIsMulAndAdd(t *testing.T) {
	r := rand.New(rand.NewSource(56))
	p := curve.Base().Mul(anyHash(r)).Add(decoded(t, torsion(t)[5].hash()))
	for range 100 {
		n, m := anyHash(r), anyHash(r)
		q := curve.Both(n, p, m)
		if want := curve.Base().Mul(n).Add(p.Mul(m)); q.Hash() != want.Hash() {
			t.Fatalf("Both(%x, %x, %x): %x", n, p.Hash(), m, q.Hash())
		}
		p = q
	}
}

// P5.2: L times the base point is the neutral one; as L is a prime, no lesser number is its order.
func TestOrder(t *testing.T) {
	if !order().ProbablyPrime(20) {
		t.Fatal("L is no prime")
	}
	b, l := curve.Base(), laid(order())
	if b.Hash() == (api.Hash{1}) || b.Mul(l).Hash() != (api.Hash{1}) || curve.Both(l, b, api.Hash{}).Hash() != (api.Hash{1}) || curve.Both(api.Hash{}, b, l).Hash() != (api.Hash{1}) {
		t.Errorf("L times the base point: %x", b.Mul(l).Hash())
	}
	before, after := l, l
	before[0]--
	after[0]++
	same(t, "L - 1 base points", b.Mul(before), base().minus())
	same(t, "L + 1 base points", b.Mul(after), base())
	for i, p := range torsion(t) { // a point of another order: L times it is a Small one
		a := decoded(t, base().plus(p).hash())
		same(t, "L times another", a.Mul(l), p.many(order()))
		if i > 0 && a.Mul(l).Hash() == (api.Hash{1}) {
			t.Errorf("point %d has the order L", i)
		}
	}
}

// Multiples as others have published them: 2 and 3 base points, and keys of RFC 8032.
func TestPublished(t *testing.T) {
	b := curve.Base()
	if h := b.Add(b).Hash(); h != hashOf(t, "c9a3f86aae465f0e56513864510f3997561fa2c9e85ea21dc2292309f3cd6022") {
		t.Errorf("2 base points: %x", h)
	}
	if h := b.Mul(api.Hash{3}).Hash(); h != hashOf(t, "d4b4f5784868c3020403246717ec169ff79e26608ea126a1ab69ee77d1b16712") {
		t.Errorf("3 base points: %x", h)
	}
	for seed, key := range map[string]string{
		"9d61b19deffd5a60ba844af492ec2cc44449c5697b326919703bac031cae7f60": "d75a980182b10ab7d54bfed3c964073a0ee172f3daa62325af021a68f707511a",
		"4ccd089b28ff96da9db6c346ec114e0f5b8a319f35aba624da8cf6ed4fb8a6fb": "3d4017c3e843895a92b70aa74d1b7ebc9c982ccf2ec4968cc0cd55f12af4660c",
	} {
		if h := b.Mul(numberOf(hashOf(t, seed))).Hash(); h != hashOf(t, key) {
			t.Errorf("the key of %s: %x", seed, h)
		}
	}
}

// numberOf answers the number by which a seed has its key.
func numberOf(seed api.Hash) api.Hash {
	long := sha512.Sum512(seed[:])
	n := api.Hash(long[:32])
	n[0] &= 0xf8
	n[31] = n[31]&0x7f | 0x40
	return n
}

// Keys that the library's own Ed25519 has.
func TestKeys(t *testing.T) {
	r := rand.New(rand.NewSource(57))
	for range 100 {
		seed := anyHash(r)
		key := ed25519.NewKeyFromSeed(seed[:]).Public().(ed25519.PublicKey)
		p := curve.Base().Mul(numberOf(seed))
		if p.Hash() != api.Hash(key) || decoded(t, api.Hash(key)).Hash() != p.Hash() {
			t.Fatalf("the key of %x: %x, not %x", seed, p.Hash(), key)
		}
	}
}
