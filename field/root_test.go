package field_test

import (
	"math/big"
	"math/rand"
	"testing"

	"witan/field"
)

// evenRoot answers the even root of u / v, reckoned another way; nil: there is none, or v is 0.
func evenRoot(u, v *big.Int) *big.Int {
	p := prime()
	if v.Sign() == 0 {
		return nil
	}
	q := new(big.Int).ModInverse(v, p)
	q.Mul(q, u).Mod(q, p)
	x := new(big.Int).ModSqrt(q, p)
	if x != nil && x.Bit(0) == 1 {
		x.Sub(p, x)
	}
	return x
}

// root fails if Root(a, b), a being u and b being v, isn't what evenRoot says; it tells whether there is one.
func root(t testing.TB, a, b field.El, u, v *big.Int) bool {
	t.Helper()
	x, ok := field.Root(a, b)
	want := evenRoot(u, v)
	if ok != (want != nil) {
		t.Fatalf("Root(%v, %v): %v", u, v, ok)
	}
	if !ok {
		if x != (field.El{}) {
			t.Fatalf("Root(%v, %v): false, and %v", u, v, x)
		}
		return false
	}
	same(t, "Root", x, want)
	if x.Odd() {
		t.Fatalf("Root(%v, %v) is odd", u, v)
	}
	same(t, "v x x", b.Mul(x).Mul(x), u)
	return true
}

// P3.2: quotients of edges.
func TestRootOfEdges(t *testing.T) {
	ns := edges()
	found := 0
	for i, n := range ns {
		for j, m := range ns {
			if (i+j)%5 == 0 && root(t, el(t, n), el(t, m), n, m) {
				found++
			}
		}
	}
	if found < 500 || found > len(ns)*len(ns)/5-500 {
		t.Errorf("%d roots: not about one half", found)
	}
}

// P3.2: quotients of each kind: those whose power (p - 1) / 4 is 1, -1, and the two roots of -1, which have no root.
func TestRootOfEachKind(t *testing.T) {
	p := prime()
	quarter := new(big.Int).Rsh(p, 2)
	r := rand.New(rand.NewSource(34))
	kinds := map[string]int{}
	for range 400 {
		v := new(big.Int).Rand(r, p)
		u := new(big.Int).Rand(r, p)
		q := new(big.Int).ModInverse(v, p)
		q.Mul(q, u).Mod(q, p).Exp(q, quarter, p)
		kinds[q.String()]++
		root(t, el(t, u), el(t, v), u, v)
	}
	if len(kinds) != 4 {
		t.Errorf("kinds: %v", kinds)
	}
}

// P3.2: squares, their negatives and their doubles, over 1 and over others.
func TestRootOfSquares(t *testing.T) {
	p := prime()
	r := rand.New(rand.NewSource(35))
	two := big.NewInt(2)
	for i := range 100 {
		x := new(big.Int).Rand(r, p)
		v := big.NewInt(1)
		if i%2 == 1 {
			v.Rand(r, p)
		}
		u := modP(new(big.Int).Mul(v, new(big.Int).Mul(x, x)))
		minus, double := modP(new(big.Int).Neg(u)), modP(new(big.Int).Mul(u, two))
		if !root(t, el(t, u), el(t, v), u, v) || !root(t, el(t, minus), el(t, v), minus, v) {
			t.Fatalf("a square over %v has no root", v)
		}
		if root(t, el(t, double), el(t, v), double, v) {
			t.Fatalf("twice a square over %v has a root", v)
		}
	}
}

func TestRootOfSmall(t *testing.T) {
	for u := range int64(40) {
		for v := range int64(12) {
			root(t, field.Small(uint64(u)), field.Small(uint64(v)), big.NewInt(u), big.NewInt(v))
			minus := field.Small(0).Sub(field.Small(uint64(u)))
			root(t, minus, field.Small(uint64(v)), modP(big.NewInt(-u)), big.NewInt(v))
		}
	}
}

// P3.2: of 0, and over 0.
func TestRootOfZero(t *testing.T) {
	var zero field.El
	for _, n := range edges() {
		a := el(t, n)
		x, ok := field.Root(zero, a)
		if x.Hash() != zero.Hash() || ok != (n.Sign() != 0) {
			t.Errorf("Root(0, %v): %v %v", n, x, ok)
		}
		if x, ok := field.Root(a, zero); ok || x != zero {
			t.Errorf("Root(%v, 0): %v %v", n, x, ok)
		}
	}
}

// The root of -1, written out.
func TestRootOfMinusOne(t *testing.T) {
	want := number(t, "19681161376707505956807079304988542015446066515923890162744021073123829784752")
	x, ok := field.Root(field.Small(0).Sub(field.Small(1)), field.Small(1))
	if !ok {
		t.Fatal("none")
	}
	same(t, "root of -1", x, want)
}

// Roots of what operations answered, not of what bytes gave.
func TestRootOfResults(t *testing.T) {
	r := rand.New(rand.NewSource(36))
	es := edges()
	for range 150 {
		n, m := anyNumber(r, es), anyNumber(r, es)
		a, b := el(t, n), el(t, m)
		u, v := a.Sub(b), b.Mul(a).Add(a)
		root(t, u, v, modP(new(big.Int).Sub(n, m)), modP(new(big.Int).Add(new(big.Int).Mul(n, m), n)))
	}
}
