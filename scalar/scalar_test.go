package scalar_test

import (
	"math"
	"math/big"
	"math/rand"
	"slices"
	"testing"

	"witan/api"
	"witan/scalar"
)

// power2 answers 2^n + more.
func power2(n uint, more int64) *big.Int {
	x := new(big.Int).Lsh(big.NewInt(1), n)
	return x.Add(x, big.NewInt(more))
}

// order answers L, as the chapter writes it.
func order(t testing.TB) *big.Int {
	t.Helper()
	rest, ok := new(big.Int).SetString("27742317777372353535851937790883648493", 10)
	if !ok {
		t.Fatal("no number")
	}
	return rest.Add(rest, power2(252, 0))
}

// modL answers n modulo L.
func modL(t testing.TB, n *big.Int) *big.Int {
	t.Helper()
	return new(big.Int).Mod(n, order(t))
}

// laid answers n's 32 bytes, the least first.
func laid(n *big.Int) api.Hash {
	var h api.Hash
	n.FillBytes(h[:])
	slices.Reverse(h[:])
	return h
}

// wide answers n's 64 bytes, the least first.
func wide(n *big.Int) [64]byte {
	var b [64]byte
	n.FillBytes(b[:])
	slices.Reverse(b[:])
	return b
}

// read answers the number whose bytes are b, the least first.
func read(b []byte) *big.Int {
	b = slices.Clone(b)
	slices.Reverse(b)
	return new(big.Int).SetBytes(b)
}

// sc answers the number n, below L.
func sc(t testing.TB, n *big.Int) scalar.Sc {
	t.Helper()
	a, ok := scalar.New(laid(n))
	if !ok {
		t.Fatalf("New of %v: false", n)
	}
	return a
}

// same fails if a isn't n modulo L.
func same(t testing.TB, what string, a scalar.Sc, n *big.Int) {
	t.Helper()
	want := modL(t, n)
	if h := a.Hash(); h != laid(want) {
		t.Fatalf("%s: %v, not %v", what, read(h[:]), want)
	}
}

// edges answers numbers below L at which bytes, halves, words or L begin or end.
func edges(t testing.TB) []*big.Int {
	t.Helper()
	var out []*big.Int
	for _, n := range []uint{8, 31, 32, 33, 63, 64, 65, 96, 124, 125, 127, 128, 129, 160, 191, 192, 193, 220, 224, 248, 250, 251} {
		out = append(out, power2(n, -1), power2(n, 0), power2(n, 1))
	}
	l := order(t)
	for i := range int64(9) {
		out = append(out, big.NewInt(i), new(big.Int).Sub(l, big.NewInt(i+1)), power2(252, i-4))
	}
	half := new(big.Int).Rsh(l, 1)
	out = append(out, half, new(big.Int).Add(half, big.NewInt(1)))
	rest := new(big.Int).Sub(l, power2(252, 0))
	out = append(out, rest, new(big.Int).Sub(rest, big.NewInt(1)), new(big.Int).Sub(power2(252, 0), rest))
	for i := range uint(8) { // all bits of one half word, and all but those
		word := new(big.Int).Lsh(power2(min(32, 252-32*i), -1), 32*i)
		out = append(out, word, new(big.Int).Sub(power2(252, -1), word))
	}
	return out
}

// anyNumber answers a number below L: an edge, or any.
func anyNumber(t testing.TB, r *rand.Rand, edges []*big.Int) *big.Int {
	t.Helper()
	if r.Intn(3) == 0 {
		return edges[r.Intn(len(edges))]
	}
	return new(big.Int).Rand(r, order(t))
}

// The chapter's examples, with L's bytes written out.
func TestExamples(t *testing.T) {
	l := api.Hash{0xed, 0xd3, 0xf5, 0x5c, 0x1a, 0x63, 0x12, 0x58, 0xd6, 0x9c, 0xf7, 0xa2, 0xde, 0xf9, 0xde, 0x14, 31: 0x10}
	if l != laid(order(t)) {
		t.Fatal("L's bytes")
	}
	var b [64]byte
	copy(b[:], l[:])
	if h := scalar.Wide(b).Hash(); h != (api.Hash{}) {
		t.Errorf("Wide of L: %v", h)
	}
	if a, ok := scalar.New(l); ok || a != (scalar.Sc{}) {
		t.Errorf("New of L: %v %v", a, ok)
	}
	l[0]--
	a, ok := scalar.New(l)
	if !ok || a.Hash() != l {
		t.Fatalf("New of L - 1: %v %v", a.Hash(), ok)
	}
	one, ok := scalar.New(api.Hash{1})
	if !ok || a.Add(one).Hash() != (api.Hash{}) || one.Add(a).Hash() != (api.Hash{}) {
		t.Errorf("L - 1 and 1: %v %v", a.Add(one).Hash(), ok)
	}
}

func TestZeroValue(t *testing.T) {
	var zero scalar.Sc
	same(t, "the zero Sc", zero, new(big.Int))
	if a, ok := scalar.New(api.Hash{}); !ok || a.Hash() != (api.Hash{}) {
		t.Errorf("New of noughts: %v %v", a.Hash(), ok)
	}
	same(t, "Wide of noughts", scalar.Wide([64]byte{}), new(big.Int))
	for _, n := range edges(t) {
		a := sc(t, n)
		same(t, "0 + a", zero.Add(a), n)
		same(t, "a + 0", a.Add(zero), n)
		same(t, "0 * a", zero.Mul(a), new(big.Int))
		same(t, "a * 0", a.Mul(zero), new(big.Int))
	}
	for i := -2; i < 260; i++ {
		if zero.Bit(i) {
			t.Errorf("bit %d of 0", i)
		}
	}
}

// Each byte stands at its place, the least first: 1, 2, .. 32 is written out here, so that no helper's order is all there is.
func TestOrderOfBytes(t *testing.T) {
	var h api.Hash
	var b [64]byte
	for i := range 31 {
		h[i], b[i] = byte(i+1), byte(i+1)
	}
	n, _ := new(big.Int).SetString("1f1e1d1c1b1a191817161514131211100f0e0d0c0b0a090807060504030201", 16)
	a, ok := scalar.New(h)
	if !ok || a.Hash() != h {
		t.Fatalf("1 .. 31: %v %v", a.Hash(), ok)
	}
	same(t, "New of 1 .. 31", a, n)
	same(t, "Wide of 1 .. 31", scalar.Wide(b), n)
	two := sc(t, big.NewInt(2))
	power := sc(t, big.NewInt(1))
	for i := range uint(512) {
		b := [64]byte{}
		b[i/8] = 1 << (i % 8)
		same(t, "a bit of 64 bytes", scalar.Wide(b), power2(i, 0))
		if scalar.Wide(b).Hash() != power.Hash() {
			t.Errorf("2^%d by twos: %v", i, power.Hash())
		}
		power = power.Mul(two)
		if i < 253 {
			h := api.Hash{}
			h[i/8] = 1 << (i % 8)
			a, ok := scalar.New(h)
			if !ok || a.Hash() != h {
				t.Errorf("bit %d: %v %v", i, a.Hash(), ok)
			}
		}
	}
}

// New, of what is below L, up to L - 1.
func TestNewBelowL(t *testing.T) {
	for _, n := range edges(t) {
		same(t, "New", sc(t, n), n)
	}
	r := rand.New(rand.NewSource(41))
	for range 500 {
		n := new(big.Int).Rand(r, order(t))
		same(t, "New", sc(t, n), n)
	}
	rest := new(big.Int).Sub(order(t), power2(252, 0))
	for range 100 { // from 2^252 on, the numbers are few
		n := power2(252, 0)
		n.Add(n, new(big.Int).Rand(r, rest))
		same(t, "New", sc(t, n), n)
	}
}

// New, of L and of what is above it, up to 2^256 - 1.
func TestNewNotBelowL(t *testing.T) {
	l := order(t)
	var refused []*big.Int
	for i := range int64(40) {
		refused = append(refused, new(big.Int).Add(l, big.NewInt(i)), power2(256, -1-i), power2(253, i-20), power2(254, i-20), power2(255, i-20))
	}
	for i := range int64(16) { // L, as often as it goes, and the numbers beside it
		many := new(big.Int).Mul(l, big.NewInt(i))
		for j := range int64(5) {
			n := new(big.Int).Add(many, big.NewInt(j-2))
			if n.Cmp(l) >= 0 && n.BitLen() <= 256 {
				refused = append(refused, n)
			}
		}
	}
	for i := range uint(252) { // one bit above L
		refused = append(refused, new(big.Int).Add(l, power2(i, 0)))
	}
	for _, n := range edges(t) { // what is below L, with one of the highest bits
		for i := uint(253); i < 256; i++ {
			refused = append(refused, new(big.Int).Add(n, power2(i, 0)))
		}
	}
	r := rand.New(rand.NewSource(42))
	for range 300 {
		n := new(big.Int).Rand(r, new(big.Int).Sub(power2(256, 0), l))
		refused = append(refused, n.Add(n, l))
	}
	for _, n := range refused {
		if a, ok := scalar.New(laid(n)); ok || a != (scalar.Sc{}) {
			t.Errorf("New of %v: %v %v", n, a.Hash(), ok)
		}
	}
}

// Wide, of any 64 bytes: edges, what is about L as often as it goes, and any.
func TestWide(t *testing.T) {
	l := order(t)
	ns := edges(t)
	for _, i := range []uint{252, 253, 254, 255, 256, 257, 284, 285, 316, 317, 320, 383, 384, 448, 504, 511, 512} {
		for j := range int64(41) {
			if n := power2(i, j-20); n.BitLen() <= 512 {
				ns = append(ns, n)
			}
		}
	}
	most := new(big.Int).Div(power2(512, -1), l)
	r := rand.New(rand.NewSource(43))
	for i := range int64(400) {
		times := new(big.Int).Rand(r, most)
		switch {
		case i < 20:
			times = big.NewInt(i)
		case i < 40:
			times.Sub(most, big.NewInt(i-20))
		case i < 300:
			times = power2(uint(i-40), 0)
		}
		many := times.Mul(times, l)
		for j := range int64(5) {
			if n := new(big.Int).Add(many, big.NewInt(j-2)); n.Sign() >= 0 && n.BitLen() <= 512 {
				ns = append(ns, n)
			}
		}
	}
	for i := range uint(260) { // from 2^252 to L, which are few, shifted anywhere, with the bits below all 1
		n := new(big.Int).Sub(l, big.NewInt(int64(i%3)+1))
		n.Lsh(n, i%260)
		ns = append(ns, n, new(big.Int).Add(n, power2(i, -1)))
		n = new(big.Int).Lsh(power2(252, 0), i%260)
		ns = append(ns, n, new(big.Int).Add(n, power2(i, -1)))
	}
	for range 2000 {
		ns = append(ns, new(big.Int).Rand(r, power2(uint(r.Intn(513)), 0)))
	}
	for _, n := range ns {
		if n.BitLen() <= 512 {
			same(t, "Wide", scalar.Wide(wide(n)), n)
		}
	}
}

// Every pair of edges, summed and multiplied, held against numbers of any length.
func TestEdgesByPairs(t *testing.T) {
	ns := edges(t)
	for _, n := range ns {
		a := sc(t, n)
		for _, m := range ns {
			b := sc(t, m)
			same(t, "Add", a.Add(b), new(big.Int).Add(n, m))
			same(t, "Mul", a.Mul(b), new(big.Int).Mul(n, m))
		}
	}
}

// Sums and products that are about L, as often as it goes.
func TestAboutL(t *testing.T) {
	l := order(t)
	for _, n := range edges(t) {
		if n.Sign() == 0 {
			continue
		}
		a := sc(t, n)
		inverse := new(big.Int).ModInverse(n, l)
		for i := range int64(7) {
			more := big.NewInt(i - 3)
			m := modL(t, new(big.Int).Sub(more, n))
			same(t, "sum about L", a.Add(sc(t, m)), more)
			m = modL(t, new(big.Int).Mul(more, inverse))
			same(t, "product about L", a.Mul(sc(t, m)), more)
		}
	}
}

// Results of results, never made anew from bytes; bits asked of them, too.
func TestManyOperations(t *testing.T) {
	r := rand.New(rand.NewSource(44))
	es := edges(t)
	for range 60 {
		ns, as := make([]*big.Int, 8), make([]scalar.Sc, 8)
		for i := range ns {
			ns[i] = anyNumber(t, r, es)
			as[i] = sc(t, ns[i])
		}
		for range 300 {
			i, j, k := r.Intn(8), r.Intn(8), r.Intn(8)
			n := new(big.Int)
			switch r.Intn(8) {
			case 0, 1, 2:
				as[k], ns[k] = as[i].Add(as[j]), modL(t, n.Add(ns[i], ns[j]))
			case 3, 4, 5:
				as[k], ns[k] = as[i].Mul(as[j]), modL(t, n.Mul(ns[i], ns[j]))
			case 6:
				ns[k] = anyNumber(t, r, es)
				as[k] = sc(t, ns[k])
			default:
				n.Rand(r, power2(512, 0))
				as[k], ns[k] = scalar.Wide(wide(n)), modL(t, n)
			}
			same(t, "in a row", as[k], ns[k])
			if bit := r.Intn(256); as[k].Bit(bit) != (ns[k].Bit(bit) == 1) {
				t.Fatalf("bit %d of %v", bit, ns[k])
			}
		}
	}
}

// Doubled, summed up and squared over and over.
func TestLongRows(t *testing.T) {
	for _, n := range edges(t) {
		a, b, c := sc(t, n), sc(t, n), sc(t, n)
		x, y, z := n, n, n
		for range 600 {
			a, x = a.Add(a), modL(t, new(big.Int).Add(x, x))
			b, y = b.Add(a), modL(t, new(big.Int).Add(y, x))
			c, z = c.Mul(c).Add(b), modL(t, new(big.Int).Add(new(big.Int).Mul(z, z), y))
		}
		same(t, "doubled", a, x)
		same(t, "summed up", b, y)
		same(t, "squared", c, z)
	}
}

// Each bit of each edge, and of the numbers with one bit.
func TestBit(t *testing.T) {
	ns := edges(t)
	for i := range uint(253) {
		ns = append(ns, power2(i, 0))
	}
	for _, n := range ns {
		a := sc(t, n)
		for i := range 256 {
			if a.Bit(i) != (n.Bit(i) == 1) {
				t.Errorf("bit %d of %v: %v", i, n, a.Bit(i))
			}
		}
	}
	last := sc(t, new(big.Int).Sub(order(t), big.NewInt(1)))
	for i, want := range map[int]bool{0: false, 2: true, 3: true, 124: true, 125: false, 251: false, 252: true, 253: false, 254: false, 255: false} {
		if last.Bit(i) != want {
			t.Errorf("bit %d of L - 1: %v", i, last.Bit(i))
		}
	}
}

// Bit, of what is no place of a bit: none of these may stand for another, be it modulo 64, 256 or 2^32.
func TestNoBit(t *testing.T) {
	places := []int{math.MinInt, math.MinInt + 1, math.MinInt32, math.MaxInt32, math.MaxInt - 255, math.MaxInt - 1, math.MaxInt, 1 << 32, 1<<32 + 252, -1 << 32, 512, 1 << 16}
	for i := range 600 {
		places = append(places, -1-i, 256+i)
	}
	for _, n := range []*big.Int{power2(252, -1), new(big.Int).Sub(order(t), big.NewInt(1)), power2(252, 0), big.NewInt(1)} {
		a := sc(t, n)
		for _, i := range places {
			if a.Bit(i) {
				t.Errorf("bit %d of %v", i, n)
			}
		}
	}
}

// What is asked of a number, and what it is asked with, stays as it is.
func TestNothingChanged(t *testing.T) {
	n, m := new(big.Int).Sub(order(t), big.NewInt(5)), power2(251, 9)
	a, b := sc(t, n), sc(t, m)
	x, y := a, b
	a.Add(b)
	a.Mul(b)
	a.Bit(3)
	h := a.Hash()
	h[0]++
	if a != x || b != y {
		t.Error("changed")
	}
	same(t, "a", a, n)
	same(t, "b", b, m)
}

// All of P4.1, of any 64 bytes, cut in two as well.
func FuzzNumbers(f *testing.F) {
	f.Add(make([]byte, 64), -1)
	for _, n := range edges(f) {
		h := laid(n)
		f.Add(h[:], 252)
	}
	f.Fuzz(func(t *testing.T, bytes []byte, place int) {
		var long [64]byte
		copy(long[:], bytes)
		a := scalar.Wide(long)
		n := read(long[:])
		same(t, "Wide", a, n)
		b, c := scalar.Wide([64]byte(append(long[:32:32], make([]byte, 32)...))), scalar.Wide([64]byte(append(long[32:64:64], make([]byte, 32)...)))
		k, l := read(long[:32]), read(long[32:])
		same(t, "Add", b.Add(c), new(big.Int).Add(k, l))
		same(t, "Mul", b.Mul(c), new(big.Int).Mul(k, l))
		same(t, "Mul and Add", a.Mul(b).Add(c), new(big.Int).Add(new(big.Int).Mul(n, k), l))
		d, ok := scalar.New(api.Hash(long[:32]))
		if ok != (k.Cmp(order(t)) < 0) {
			t.Fatalf("New of %v: %v", k, ok)
		}
		if !ok {
			k = new(big.Int)
		}
		same(t, "New", d, k)
		if want := place >= 0 && place < 256 && modL(t, n).Bit(place) == 1; a.Bit(place) != want {
			t.Fatalf("bit %d of %v: %v", place, n, a.Bit(place))
		}
	})
}

func BenchmarkWide(b *testing.B) {
	w := wide(power2(512, -3))
	for b.Loop() {
		w[0] = scalar.Wide(w).Hash()[0]
	}
}

func BenchmarkMul(b *testing.B) {
	a := sc(b, power2(252, -3))
	for b.Loop() {
		a = a.Mul(a)
	}
}
