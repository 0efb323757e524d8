package curve_test

import (
	"math/big"
	"math/rand"
	"testing"

	"witan/api"
	"witan/curve"
)

// torsion answers the eight points that are Small, from the neutral one on, each one the sum of that ahead of it and one of order 8.
func torsion(t testing.TB) []pair {
	t.Helper()
	p, ok := pointOf(api.Hash{
		0xc7, 0x17, 0x6a, 0x70, 0x3d, 0x4d, 0xd8, 0x4f, 0xba, 0x3c, 0x0b, 0x76, 0x0d, 0x10, 0x67, 0x0f,
		0x2a, 0x20, 0x53, 0xfa, 0x2c, 0x39, 0xcc, 0xc6, 0x4e, 0xc7, 0xfd, 0x77, 0x92, 0xac, 0x03, 0x7a,
	})
	if !ok {
		t.Fatal("no point of order 8")
	}
	out := []pair{neutral()}
	for range 7 {
		out = append(out, out[len(out)-1].plus(p))
	}
	return out
}

// points answers points of every kind: Small ones, those of order L, and sums of both.
func points(t testing.TB) []pair {
	t.Helper()
	out := torsion(t)
	r := rand.New(rand.NewSource(51))
	for i, n := range []*big.Int{big.NewInt(1), big.NewInt(2), big.NewInt(7), new(big.Int).Rand(r, order()), new(big.Int).Sub(order(), big.NewInt(1))} {
		p := base().many(n)
		out = append(out, p, p.minus(), p.plus(out[1+i]))
	}
	return out
}

// anyHash answers any 32 bytes.
func anyHash(r *rand.Rand) api.Hash {
	var h api.Hash
	r.Read(h[:])
	return h
}

// refused fails if h is a point's bytes.
func refused(t testing.TB, h api.Hash) {
	t.Helper()
	if p, err := curve.Decode(h); err != api.ErrPoint || p != (curve.Point{}) {
		t.Errorf("Decode of %x: %v %v", h, p, err)
	}
}

// The chapter's examples.
func TestExamples(t *testing.T) {
	want := api.Hash{0x58}
	for i := 1; i < 32; i++ {
		want[i] = 0x66
	}
	if h := curve.Base().Hash(); h != want {
		t.Errorf("the base point: %x", h)
	}
	if p := decoded(t, api.Hash{}); !p.Small() || p.Hash() != (api.Hash{}) {
		t.Errorf("noughts: %x", p.Hash())
	}
	refused(t, api.Hash{2})
}

func TestZeroPoint(t *testing.T) {
	var zero curve.Point
	b := curve.Base()
	for what, p := range map[string]curve.Point{
		"0": zero, "-0": zero.Neg(), "0 + 0": zero.Add(zero), "-0 + 0": zero.Neg().Add(zero), "0 - -0": zero.Add(zero.Neg().Neg()),
		"0 n": zero.Mul(api.Hash{5}), "-0 n": zero.Neg().Mul(laid(order())), "nothing": b.Mul(api.Hash{}), "0 nothing": zero.Mul(api.Hash{}),
		"0 both": curve.Both(api.Hash{}, zero, api.Hash{9}), "-0 both": curve.Both(api.Hash{}, zero.Neg(), api.Hash{31: 255}), "nothing of both": curve.Both(api.Hash{}, b, api.Hash{}),
		"decoded": decoded(t, api.Hash{1}), "L": b.Mul(laid(order())), "b - b": b.Add(b.Neg()),
	} {
		same(t, what, p, neutral())
		if !p.Small() {
			t.Errorf("%s isn't Small", what)
		}
		same(t, what+" + b", p.Add(b), base())
		same(t, "b + "+what, b.Add(p), base())
		same(t, "-"+what, p.Neg(), neutral())
		same(t, "-"+what+" + b", p.Neg().Add(b), base())
		same(t, what+" n", p.Mul(api.Hash{0: 7, 31: 0x80}), neutral())
		same(t, what+", doubled", p.Add(p), neutral())
		same(t, "b both "+what, curve.Both(api.Hash{1}, p, api.Hash{31: 0xff}), base())
	}
}

// The base point, from the chapter's words: y is 4 / 5, x even.
func TestBase(t *testing.T) {
	same(t, "the base point", curve.Base(), base())
	h := base().hash()
	if h[31]>>7 != 0 || decoded(t, h).Hash() != h {
		t.Errorf("%x", h)
	}
	same(t, "the base point, decoded and added", decoded(t, h).Add(curve.Base()), base().plus(base()))
	same(t, "the base point's negative", curve.Base().Neg(), base().minus())
	same(t, "4 times the base point", curve.Base().Mul(api.Hash{4}), base().many(big.NewInt(4)))
}

// P5.1: bytes of which some are a point's, some not, each with x even and odd.
func TestDecode(t *testing.T) {
	r := rand.New(rand.NewSource(52))
	var hs []api.Hash
	for i := range int64(60) {
		hs = append(hs, laid(big.NewInt(i)), laid(new(big.Int).Sub(prime(), big.NewInt(i+1))))
	}
	for range 120 {
		hs = append(hs, anyHash(r))
	}
	for _, p := range points(t) {
		hs = append(hs, p.hash())
	}
	found := 0
	for _, h := range hs {
		h[31] &= 0x7f
		for range 2 {
			p, ok := pointOf(h)
			if !ok {
				refused(t, h)
			} else {
				found++
				a := decoded(t, h)
				same(t, "decoded", a, p)
				same(t, "decoded, and more", a.Add(curve.Base()), p.plus(base()))
				same(t, "the negative", a.Neg(), p.minus())
			}
			h[31] ^= 0x80
		}
	}
	if found < len(hs)/2 || found > len(hs)*3/2 {
		t.Errorf("%d of %d are points: not about one half", found, 2*len(hs))
	}
}

// P5.1: y not below p, though many would have an x; with an odd x, too.
func TestDecodeGreatY(t *testing.T) {
	points := 0
	for i := range int64(19) {
		h := laid(new(big.Int).Add(prime(), big.NewInt(i)))
		refused(t, h)
		h[31] |= 0x80
		refused(t, h)
		if _, ok := pointOf(laid(big.NewInt(i))); ok {
			points++
		}
	}
	if points < 5 {
		t.Errorf("%d of those would be points", points)
	}
}

// P5.1: x 0 is even, and has one form alone.
func TestDecodeNoX(t *testing.T) {
	for _, y := range []*big.Int{big.NewInt(1), new(big.Int).Sub(prime(), big.NewInt(1))} {
		h := laid(y)
		same(t, "x 0", decoded(t, h), pair{new(big.Int), y})
		h[31] |= 0x80
		refused(t, h)
	}
}

// P5.1: every pair of points, their sums, and the sums of sums.
func TestAdd(t *testing.T) {
	ps := points(t)
	for _, p := range ps {
		a := decoded(t, p.hash())
		for _, q := range ps {
			b, s := decoded(t, q.hash()), p.plus(q)
			same(t, "a + b", a.Add(b), s)
			same(t, "b + a", b.Add(a), s)
			same(t, "a - b", a.Add(b.Neg()), p.plus(q.minus()))
			same(t, "a + b - b", a.Add(b).Add(b.Neg()), p)
			same(t, "-(a + b)", a.Add(b).Neg(), s.minus())
			same(t, "twice a + b", a.Add(b).Add(b.Add(a)), s.plus(s))
		}
	}
}

// P5.1: results of results, never made anew from bytes.
func TestManyOperations(t *testing.T) {
	r := rand.New(rand.NewSource(53))
	all := points(t)
	for range 6 {
		ps, as := make([]pair, 5), make([]curve.Point, 5)
		for i := range ps {
			ps[i] = all[r.Intn(len(all))]
			as[i] = decoded(t, ps[i].hash())
		}
		for range 60 {
			i, j, k := r.Intn(5), r.Intn(5), r.Intn(5)
			switch r.Intn(5) {
			case 0, 1:
				as[k], ps[k] = as[i].Add(as[j]), ps[i].plus(ps[j])
			case 2:
				as[k], ps[k] = as[i].Neg(), ps[i].minus()
			case 3:
				n := big.NewInt(r.Int63n(300))
				as[k], ps[k] = as[i].Mul(laid(n)), ps[i].many(n)
			default:
				n, m := big.NewInt(r.Int63n(300)), big.NewInt(r.Int63n(300))
				as[k], ps[k] = curve.Both(laid(n), as[i], laid(m)), base().many(n).plus(ps[i].many(m))
			}
			same(t, "in a row", as[k], ps[k])
			if as[k].Small() != ps[k].small() {
				t.Fatalf("Small: %v of %x", as[k].Small(), as[k].Hash())
			}
		}
	}
}

// P5.1: Small, of points of each order.
func TestSmall(t *testing.T) {
	smalls := torsion(t)
	seen := map[api.Hash]int{}
	for i, p := range smalls {
		seen[p.hash()] = i
		a := decoded(t, p.hash())
		if !p.on() || !a.Small() || !a.Neg().Small() || !a.Add(a).Small() {
			t.Errorf("%d times a point of order 8 isn't Small", i)
		}
		for _, n := range []api.Hash{{1}, {2}, {4}, {8}, {15}, {16}, laid(order())} {
			if b := curve.Base().Mul(n).Add(a); b.Small() != (n == laid(order())) {
				t.Errorf("%v base points, and one of order 8 %d times: %v", read(n), i, b.Small())
			}
		}
	}
	if len(seen) != 8 {
		t.Errorf("%d Small points", len(seen))
	}
	// (0, -1), and both points with y 0, written out.
	for _, h := range []api.Hash{laid(new(big.Int).Sub(prime(), big.NewInt(1))), {}, {31: 0x80}} {
		if _, ok := seen[h]; !ok || !decoded(t, h).Small() {
			t.Errorf("%x isn't Small", h)
		}
	}
}

// What is asked of a point leaves it as it is.
func TestNothingChanged(t *testing.T) {
	p := curve.Base().Add(decoded(t, torsion(t)[3].hash()))
	q := curve.Base().Neg()
	a, b, h, g := p, q, p.Hash(), q.Hash()
	p.Add(q)
	p.Neg()
	p.Small()
	p.Mul(h)
	curve.Both(h, q, g)
	if p != a || q != b || p.Hash() != h || q.Hash() != g {
		t.Error("changed")
	}
}

// P5.1, of any three lists of 32 bytes: two that may be points, the third how often.
func FuzzPoints(f *testing.F) {
	ps := points(f)
	for i, p := range ps {
		g, h, n := p.hash(), ps[len(ps)-1-i].hash(), laid(new(big.Int).Lsh(big.NewInt(13), uint(10*i)))
		f.Add(g[:], h[:], n[:])
	}
	f.Fuzz(func(t *testing.T, x, y, z []byte) {
		var g, h, n api.Hash
		copy(g[:], x)
		copy(h[:], y)
		copy(n[:], z)
		p, okP := pointOf(g)
		q, okQ := pointOf(h)
		if !okP {
			refused(t, g)
		}
		if !okQ {
			refused(t, h)
		}
		if !okP || !okQ {
			return
		}
		a, b := decoded(t, g), decoded(t, h)
		same(t, "Add", a.Add(b), p.plus(q))
		same(t, "Neg", a.Neg(), p.minus())
		same(t, "Mul", a.Mul(n), p.many(read(n)))
		same(t, "Both", curve.Both(h, a, n), base().many(read(h)).plus(p.many(read(n))))
		if a.Small() != p.small() {
			t.Fatalf("Small: %v of %x", a.Small(), g)
		}
	})
}
