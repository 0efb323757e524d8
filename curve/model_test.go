package curve_test

import (
	"math/big"
	"slices"
	"testing"

	"witan/api"
	"witan/curve"
)

// pair is a point as the chapter has it: (x, y), numbers from 0 to p - 1.
type pair struct{ x, y *big.Int }

// number reads decimal digits, or those after 0x.
func number(text string) *big.Int {
	n, ok := new(big.Int).SetString(text, 0)
	if !ok {
		panic("no number: " + text)
	}
	return n
}

// prime answers p, 2^255 - 19.
func prime() *big.Int {
	return number("0x7fffffffffffffffffffffffffffffffffffffffffffffffffffffffffffffed")
}

// order answers L.
func order() *big.Int {
	n := number("27742317777372353535851937790883648493")
	return n.Add(n, new(big.Int).Lsh(big.NewInt(1), 252))
}

// sum, less, times and over reckon modulo p.
func sum(a, b *big.Int) *big.Int {
	n := new(big.Int).Add(a, b)
	return n.Mod(n, prime())
}

func less(a, b *big.Int) *big.Int {
	n := new(big.Int).Sub(a, b)
	return n.Mod(n, prime())
}

func times(a, b *big.Int) *big.Int {
	n := new(big.Int).Mul(a, b)
	return n.Mod(n, prime())
}

func over(a, b *big.Int) *big.Int {
	return times(a, new(big.Int).ModInverse(b, prime()))
}

// d answers the curve's d.
func d() *big.Int {
	return over(big.NewInt(-121665), big.NewInt(121666))
}

// neutral answers (0, 1).
func neutral() pair {
	return pair{new(big.Int), big.NewInt(1)}
}

// base answers the base point: y = 4 / 5, and x even.
func base() pair {
	y := over(big.NewInt(4), big.NewInt(5))
	p, ok := pointOf(laid(y))
	if !ok || p.x.Bit(0) == 1 {
		panic("no base point")
	}
	return p
}

// on tells whether the curve has the pair.
func (p pair) on() bool {
	xx, yy := times(p.x, p.x), times(p.y, p.y)
	return less(yy, xx).Cmp(sum(big.NewInt(1), times(d(), times(xx, yy)))) == 0
}

// plus answers the sum, as the chapter tells it.
func (p pair) plus(q pair) pair {
	one, xyuv := big.NewInt(1), times(d(), times(times(p.x, p.y), times(q.x, q.y)))
	return pair{
		over(sum(times(p.x, q.y), times(p.y, q.x)), sum(one, xyuv)),
		over(sum(times(p.y, q.y), times(p.x, q.x)), less(one, xyuv)),
	}
}

// minus answers the negative.
func (p pair) minus() pair {
	return pair{less(new(big.Int), p.x), p.y}
}

// many answers the sum of n of them.
func (p pair) many(n *big.Int) pair {
	r := neutral()
	for i := n.BitLen() - 1; i >= 0; i-- {
		r = r.plus(r)
		if n.Bit(i) == 1 {
			r = r.plus(p)
		}
	}
	return r
}

// small tells whether 8 of them are the neutral point.
func (p pair) small() bool {
	return p.many(big.NewInt(8)).hash() == (api.Hash{1})
}

// hash answers the point's bytes.
func (p pair) hash() api.Hash {
	h := laid(p.y)
	h[31] |= byte(p.x.Bit(0) << 7)
	return h
}

// pointOf answers the point whose bytes are h; false: there is none.
func pointOf(h api.Hash) (pair, bool) {
	odd := uint(h[31] >> 7)
	h[31] &= 0x7f
	y := read(h)
	if y.Cmp(prime()) >= 0 {
		return pair{}, false
	}
	yy := times(y, y)
	one := big.NewInt(1)
	x := new(big.Int).ModSqrt(over(less(yy, one), sum(one, times(d(), yy))), prime())
	if x == nil || x.Sign() == 0 && odd == 1 {
		return pair{}, false
	}
	if x.Bit(0) != odd {
		x = less(new(big.Int), x)
	}
	return pair{x, y}, true
}

// laid answers n's 32 bytes, the least first.
func laid(n *big.Int) api.Hash {
	var h api.Hash
	n.FillBytes(h[:])
	slices.Reverse(h[:])
	return h
}

// read answers the number whose bytes are h, the least first.
func read(h api.Hash) *big.Int {
	slices.Reverse(h[:])
	return new(big.Int).SetBytes(h[:])
}

// decoded answers the point whose bytes are h.
func decoded(t testing.TB, h api.Hash) curve.Point {
	t.Helper()
	p, err := curve.Decode(h)
	if err != api.OK {
		t.Fatalf("Decode of %x: %v", h, err)
	}
	return p
}

// same fails if a isn't the point p.
func same(t testing.TB, what string, a curve.Point, p pair) {
	t.Helper()
	if got := a.Hash(); got != p.hash() {
		t.Fatalf("%s: %x, not %x", what, got, p.hash())
	}
}

// The model holds itself to the chapter's words.
func TestModel(t *testing.T) {
	if !neutral().on() || !base().on() {
		t.Fatal("not on the curve")
	}
	p := base()
	for range 20 {
		q := p.plus(base())
		if back := q.plus(base().minus()); !q.on() || back.hash() != p.hash() {
			t.Fatalf("%v and the base point", p)
		}
		p = q
	}
}
