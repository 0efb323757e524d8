package field_test

import (
	"math/big"
	"math/rand"
	"slices"
	"testing"

	"witan/api"
	"witan/field"
)

// number reads decimal digits, or those after 0x.
func number(t testing.TB, text string) *big.Int {
	t.Helper()
	n, ok := new(big.Int).SetString(text, 0)
	if !ok {
		t.Fatalf("no number: %s", text)
	}
	return n
}

// power2 answers 2^n + more.
func power2(n uint, more int64) *big.Int {
	x := new(big.Int).Lsh(big.NewInt(1), n)
	return x.Add(x, big.NewInt(more))
}

// prime answers p.
func prime() *big.Int {
	return power2(255, -19)
}

// modP answers n modulo p.
func modP(n *big.Int) *big.Int {
	return new(big.Int).Mod(n, prime())
}

// laid answers n's 32 bytes, the least first.
func laid(n *big.Int) api.Hash {
	var h api.Hash
	n.FillBytes(h[:])
	slices.Reverse(h[:])
	return h
}

// read answers the number whose bytes are h, the least first.
func read(h api.Hash) *big.Int {
	slices.Reverse(h[:])
	return new(big.Int).SetBytes(h[:])
}

// el answers the field's number n.
func el(t testing.TB, n *big.Int) field.El {
	t.Helper()
	a, ok := field.New(laid(n))
	if !ok {
		t.Fatalf("New of %v: false", n)
	}
	return a
}

// same fails if a isn't n modulo p, or tells something else of itself than n modulo p is.
func same(t testing.TB, what string, a field.El, n *big.Int) {
	t.Helper()
	want := modP(n)
	if got := a.Hash(); got != laid(want) {
		t.Fatalf("%s: %v, not %v", what, read(got), want)
	}
	if a.Odd() != (want.Bit(0) == 1) {
		t.Fatalf("%s: Odd %v of %v", what, a.Odd(), want)
	}
}

// edges answers numbers below p at which limbs, words or p begin or end.
func edges() []*big.Int {
	var out []*big.Int
	for _, n := range []uint{1, 8, 13, 26, 38, 51, 64, 102, 128, 153, 192, 204, 248, 252, 254} {
		out = append(out, power2(n, -1), power2(n, 0), power2(n, 1), power2(n, 19))
	}
	p := prime()
	for i := range int64(21) {
		out = append(out, big.NewInt(i), new(big.Int).Sub(p, big.NewInt(i+1)))
	}
	half := new(big.Int).Rsh(p, 1)
	out = append(out, half, new(big.Int).Add(half, big.NewInt(1)))
	for i := range uint(5) { // all bits of one limb, and all but those
		limb := new(big.Int).Lsh(power2(51, -1), 51*i)
		out = append(out, modP(limb), modP(new(big.Int).Sub(power2(255, -1), limb)))
	}
	return out
}

// anyNumber answers a number below p: an edge, or any.
func anyNumber(r *rand.Rand, edges []*big.Int) *big.Int {
	if r.Intn(3) == 0 {
		return edges[r.Intn(len(edges))]
	}
	return new(big.Int).Rand(r, prime())
}

// The chapter's examples, of P3.1 and P3.2.
func TestExamples(t *testing.T) {
	one, two := field.Small(1), field.Small(2)
	same(t, "2 / 2", two.Mul(two.Inv()), big.NewInt(1))
	x, ok := field.Root(field.Small(4), one)
	if !ok {
		t.Fatal("no root of 4")
	}
	same(t, "root of 4", x, big.NewInt(2))
	minus := field.El{}.Sub(one)
	i, ok := field.Root(minus, one)
	if !ok {
		t.Fatal("no root of -1")
	}
	same(t, "root of -1, squared", i.Mul(i), big.NewInt(-1))
	if x, ok := field.Root(two, one); ok || x != (field.El{}) {
		t.Errorf("root of 2: %v %v", x, ok)
	}
	var h api.Hash
	for i := range h {
		h[i] = 0xff
	}
	if x, ok := field.New(h); ok || x != (field.El{}) {
		t.Errorf("New of ff .. ff: %v %v", x, ok)
	}
}

func TestZeroValue(t *testing.T) {
	var zero field.El
	same(t, "the zero El", zero, new(big.Int))
	same(t, "Small(0)", field.Small(0), new(big.Int))
	if x, ok := field.New(api.Hash{}); !ok || x.Hash() != (api.Hash{}) {
		t.Errorf("New of noughts: %v %v", x, ok)
	}
	seven := field.Small(7)
	same(t, "0 + 7", zero.Add(seven), big.NewInt(7))
	same(t, "7 + 0", seven.Add(zero), big.NewInt(7))
	same(t, "7 - 0", seven.Sub(zero), big.NewInt(7))
	same(t, "0 - 7", zero.Sub(seven), big.NewInt(-7))
	same(t, "0 * 7", zero.Mul(seven), new(big.Int))
	same(t, "0 inverted", zero.Inv(), new(big.Int))
}

// Each byte stands at its place, the least first: 1, 2, .. 32 is written out here, so that no helper's order is all there is.
func TestOrderOfBytes(t *testing.T) {
	var h api.Hash
	for i := range h {
		h[i] = byte(i + 1)
	}
	a, ok := field.New(h)
	if !ok || a.Hash() != h {
		t.Fatalf("1 .. 32: %v %v", a.Hash(), ok)
	}
	same(t, "1 .. 32", a, number(t, "0x201f1e1d1c1b1a191817161514131211100f0e0d0c0b0a090807060504030201"))
	if got := field.Small(0x0807060504030201).Hash(); got != (api.Hash{1, 2, 3, 4, 5, 6, 7, 8}) {
		t.Errorf("Small: %v", got)
	}
	for i := range 255 {
		var h api.Hash
		h[i/8] = 1 << (i % 8)
		a, ok := field.New(h)
		if !ok || a.Hash() != h {
			t.Errorf("bit %d: %v %v", i, a.Hash(), ok)
		}
		same(t, "a bit", a, power2(uint(i), 0))
	}
}

// P3.1: New, of what is below p.
func TestNewBelowP(t *testing.T) {
	for _, n := range edges() {
		same(t, "New", el(t, n), n)
	}
}

// P3.1: New, of p, what is above it, and what has the highest bit.
func TestNewNotBelowP(t *testing.T) {
	p := prime()
	refused := []*big.Int{power2(255, 0), power2(255, 1), power2(256, -1), power2(256, -2), power2(256, -19), power2(256, -20), power2(256, -38), power2(256, -39)}
	for i := range int64(40) { // p is 19 below 2^255: some of these have the highest bit
		refused = append(refused, new(big.Int).Add(p, big.NewInt(i)))
	}
	for _, n := range edges() { // each number below p with the highest bit
		refused = append(refused, new(big.Int).Add(n, power2(255, 0)))
	}
	r := rand.New(rand.NewSource(31))
	for range 200 {
		refused = append(refused, new(big.Int).Add(p, new(big.Int).Rand(r, power2(255, 19))))
	}
	for _, n := range refused {
		if x, ok := field.New(laid(n)); ok || x != (field.El{}) {
			t.Errorf("New of %v: %v %v", n, x, ok)
		}
	}
}

// P3.1: Small.
func TestSmall(t *testing.T) {
	for _, v := range []uint64{0, 1, 2, 18, 19, 20, 255, 256, 1<<51 - 1, 1 << 51, 1<<51 + 1, 1 << 52, 1<<63 - 1, 1 << 63, 1<<64 - 1} {
		same(t, "Small", field.Small(v), new(big.Int).SetUint64(v))
	}
}

// P3.1: every pair of edges, summed, taken away and multiplied, held against numbers of any length.
func TestEdgesByPairs(t *testing.T) {
	ns := edges()
	for _, n := range ns {
		a := el(t, n)
		for _, m := range ns {
			b := el(t, m)
			same(t, "Add", a.Add(b), new(big.Int).Add(n, m))
			same(t, "Sub", a.Sub(b), new(big.Int).Sub(n, m))
			same(t, "Mul", a.Mul(b), new(big.Int).Mul(n, m))
		}
	}
}

// P3.1: Inv.
func TestInv(t *testing.T) {
	p := prime()
	r := rand.New(rand.NewSource(32))
	ns := edges()
	for range 200 {
		ns = append(ns, new(big.Int).Rand(r, p))
	}
	for _, n := range ns {
		a := el(t, n)
		if n.Sign() == 0 {
			same(t, "Inv of 0", a.Inv(), n)
			continue
		}
		same(t, "Inv", a.Inv(), new(big.Int).ModInverse(n, p))
		same(t, "a by its Inv", a.Mul(a.Inv()), big.NewInt(1))
	}
}

// 0 and 1 as results, which no bytes gave: they may stand there as p and p + 1.
func TestZeroOfOperations(t *testing.T) {
	zero := new(big.Int)
	for _, n := range edges() {
		a := el(t, n)
		minus := field.El{}.Sub(a)
		for _, z := range []field.El{a.Sub(a), a.Add(minus), minus.Add(a), minus.Sub(minus), a.Mul(a.Sub(a)), minus.Sub(minus).Mul(a)} {
			same(t, "nothing", z, zero)
			same(t, "nothing, inverted", z.Inv(), zero)
			same(t, "nothing and one", z.Add(field.Small(1)), big.NewInt(1))
			if x, ok := field.Root(field.Small(1), z); ok || x != (field.El{}) {
				t.Fatalf("root of 1 / 0: %v %v", x, ok)
			}
			if x, ok := field.Root(z, z); ok || x != (field.El{}) {
				t.Fatalf("root of 0 / 0: %v %v", x, ok)
			}
			x, ok := field.Root(z, field.Small(3))
			if !ok {
				t.Fatal("no root of 0")
			}
			same(t, "root of 0", x, zero)
		}
	}
}

// P3.1: results of results, never made anew from bytes.
func TestManyOperations(t *testing.T) {
	r := rand.New(rand.NewSource(33))
	es := edges()
	for range 60 {
		ns, as := make([]*big.Int, 8), make([]field.El, 8)
		for i := range ns {
			ns[i] = anyNumber(r, es)
			as[i] = el(t, ns[i])
		}
		for range 300 {
			i, j, k := r.Intn(8), r.Intn(8), r.Intn(8)
			n := new(big.Int)
			switch r.Intn(10) {
			case 0, 1, 2:
				as[k], ns[k] = as[i].Add(as[j]), modP(n.Add(ns[i], ns[j]))
			case 3, 4, 5:
				as[k], ns[k] = as[i].Sub(as[j]), modP(n.Sub(ns[i], ns[j]))
			case 6, 7:
				as[k], ns[k] = as[i].Mul(as[j]), modP(n.Mul(ns[i], ns[j]))
			case 8:
				ns[k] = anyNumber(r, es)
				as[k] = el(t, ns[k])
			default:
				if ns[i].Sign() != 0 {
					as[k], ns[k] = as[i].Inv(), n.ModInverse(ns[i], prime())
				}
			}
			same(t, "in a row", as[k], ns[k])
		}
	}
}

// Doubled, negated and squared over and over: what isn't carried would pile up.
func TestLongRows(t *testing.T) {
	for _, n := range edges() {
		a, b, c := el(t, n), el(t, n), el(t, n)
		x, y, z := n, n, n
		for range 600 {
			a, x = a.Add(a), modP(new(big.Int).Add(x, x))
			b, y = field.El{}.Sub(b).Sub(a), modP(new(big.Int).Neg(new(big.Int).Add(y, x)))
			c, z = c.Mul(c).Sub(b), modP(new(big.Int).Sub(new(big.Int).Mul(z, z), y))
		}
		same(t, "doubled", a, x)
		same(t, "negated", b, y)
		same(t, "squared", c, z)
	}
}

// What is asked of a number leaves it as it is.
func TestNothingChanged(t *testing.T) {
	a, b := field.Small(0).Sub(field.Small(5)), field.Small(0).Sub(field.Small(0))
	x, y := a, b
	h := a.Hash()
	a.Add(b)
	a.Sub(b)
	a.Mul(b)
	a.Inv()
	a.Odd()
	field.Root(a, b)
	field.Root(b, a)
	if a != x || b != y || a.Hash() != h {
		t.Error("changed")
	}
}

// P3.1 and P3.2, of any two lists of 32 bytes.
func FuzzNumbers(f *testing.F) {
	for _, n := range edges() {
		a, b := laid(n), laid(new(big.Int).Sub(power2(256, -1), n))
		f.Add(a[:], b[:])
		f.Add(b[:], a[:])
	}
	f.Fuzz(func(t *testing.T, b, c []byte) {
		var g, h api.Hash
		copy(g[:], b)
		copy(h[:], c)
		u, v := read(g), read(h)
		x, okU := field.New(g)
		y, okV := field.New(h)
		if okU != (u.Cmp(prime()) < 0) || okV != (v.Cmp(prime()) < 0) {
			t.Fatalf("New of %v, %v: %v, %v", u, v, okU, okV)
		}
		if !okU || !okV {
			return
		}
		same(t, "Add", x.Add(y), new(big.Int).Add(u, v))
		same(t, "Sub", x.Sub(y), new(big.Int).Sub(u, v))
		same(t, "Mul", x.Mul(y), new(big.Int).Mul(u, v))
		if u.Sign() != 0 {
			same(t, "Inv", x.Inv(), new(big.Int).ModInverse(u, prime()))
		}
		root(t, x, y, u, v)
	})
}
