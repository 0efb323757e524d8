package curve

import (
	"math/big"
	"math/rand"
	"slices"
	"testing"

	"witan/api"
)

// Digits are odd, stand far enough from one another, and are the number.
func TestDigits(t *testing.T) {
	r := rand.New(rand.NewSource(58))
	hs := []api.Hash{{}, {1}, {0xff, 0xff}, {31: 0x80}, {31: 0xe0}}
	full := api.Hash{}
	for i := range full {
		full[i] = 0xff
	}
	hs = append(hs, full)
	for range 300 {
		var h api.Hash
		r.Read(h[:])
		hs = append(hs, h)
	}
	for _, h := range hs {
		n, first := new(big.Int), -4
		for i, v := range digits(h) {
			if v == 0 {
				continue
			}
			if v%2 == 0 || v > 15 || i < first+4 {
				t.Fatalf("digit %d at %d, %d bits behind the one ahead of it", v, i, i-first)
			}
			first = i
			n.Add(n, new(big.Int).Lsh(big.NewInt(int64(v)), uint(i)))
		}
		b := slices.Clone(h[:])
		slices.Reverse(b)
		if n.Cmp(new(big.Int).SetBytes(b)) != 0 {
			t.Fatalf("digits of %x: %v", h, n)
		}
	}
}

// d, written out, is -121665 / 121666, and no square: sums have no divisor that is 0.
func TestFactor(t *testing.T) {
	p := new(big.Int).Sub(new(big.Int).Lsh(big.NewInt(1), 255), big.NewInt(19))
	d := new(big.Int).ModInverse(big.NewInt(121666), p)
	d.Mul(d, big.NewInt(-121665)).Mod(d, p)
	h := factor().Hash()
	slices.Reverse(h[:])
	if d.Cmp(new(big.Int).SetBytes(h[:])) != 0 || big.Jacobi(d, p) != -1 {
		t.Errorf("d: %x", h)
	}
}

// The zero Point is told as such through every inner call; no other point has its coordinates.
func TestNoZ(t *testing.T) {
	var zero Point
	for _, p := range []Point{zero.whole(), zero.doubled(0).whole(), zero.doubled(3).whole(), zero.plus(zero.addend()), zero.Neg(), zero.Neg().doubled(2)} {
		if p == zero || p.z.Hash() == (api.Hash{}) || p.Hash() != (api.Hash{1}) {
			t.Errorf("%v", p)
		}
	}
	if p := Base().doubled(0); p != Base() {
		t.Errorf("doubled no times: %v", p)
	}
}

// T is x y by Z, whatever a point came from.
func TestCoordinates(t *testing.T) {
	b := Base()
	for what, p := range map[string]Point{"base": b, "negative": b.Neg(), "doubled": b.doubled(1), "doubled more": b.doubled(5), "sum": b.Add(b.doubled(2)), "Mul": b.Mul(api.Hash{31: 0x77}), "Both": Both(api.Hash{8}, b.Neg(), api.Hash{16}), "zero": Point{}.whole()} {
		if p.x.Mul(p.y).Hash() != p.z.Mul(p.t).Hash() {
			t.Errorf("%s: %v", what, p)
		}
	}
}
