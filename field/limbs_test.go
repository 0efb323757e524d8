package field

import (
	"math/big"
	"math/rand"
	"slices"
	"testing"

	"witan/api"
)

// The bound that El's comment names: one below which every limb stays.
const bound = 1<<51 + 1<<18

// value answers the number that limbs are, not modulo p.
func value(a El) *big.Int {
	n := new(big.Int)
	for i := range 5 {
		n.Lsh(n, 51).Add(n, new(big.Int).SetUint64(a.limbs[4-i]))
	}
	return n
}

// check fails if a isn't n modulo p, or a limb of it isn't below the bound.
func check(t *testing.T, what string, a El, n *big.Int) {
	t.Helper()
	p := new(big.Int).Sub(new(big.Int).Lsh(big.NewInt(1), 255), big.NewInt(19))
	want := new(big.Int).Mod(n, p)
	if got := new(big.Int).Mod(value(a), p); got.Cmp(want) != 0 {
		t.Fatalf("%s: %v, not %v", what, got, want)
	}
	if slices.Max(a.limbs[:]) >= bound {
		t.Fatalf("%s: limbs %v", what, a.limbs)
	}
	if w := a.whole(); value(w).Cmp(want) != 0 || slices.Max(w.limbs[:]) > full {
		t.Fatalf("%s: whole %v, not %v", what, w.limbs, want)
	}
	var h api.Hash
	want.FillBytes(h[:])
	slices.Reverse(h[:])
	if a.Hash() != h || a.Odd() != (h[0]&1 == 1) {
		t.Fatalf("%s: Hash %v, Odd %v, of %v", what, a.Hash(), a.Odd(), want)
	}
}

// Limbs as great as they may be, which rows of operations seldom make.
func TestGreatLimbs(t *testing.T) {
	few := []uint64{0, 1, full - 19, full - 18, full, full + 1, bound - 1}
	r := rand.New(rand.NewSource(37))
	as := []El{{[5]uint64{bound - 1, bound - 1, bound - 1, bound - 1, bound - 1}}, {[5]uint64{full - 18, full, full, full, full}}, {[5]uint64{full, full, full, full, full}}, {[5]uint64{full - 17, full, full, full, full}}, {[5]uint64{full - 19, full, full, full, full}}}
	for range 120 {
		var a El
		for i := range 5 {
			a.limbs[i] = few[r.Intn(len(few))]
		}
		as = append(as, a)
	}
	for _, a := range as {
		n := value(a)
		check(t, "limbs", a, n)
		for _, b := range as {
			m := value(b)
			check(t, "Add", a.Add(b), new(big.Int).Add(n, m))
			check(t, "Sub", a.Sub(b), new(big.Int).Sub(n, m))
			check(t, "Mul", a.Mul(b), new(big.Int).Mul(n, m))
			if a.is(b) != (a.Hash() == b.Hash()) {
				t.Fatalf("is: %v of %v and %v", a.is(b), a.limbs, b.limbs)
			}
		}
	}
}

func TestCarriedOfAny(t *testing.T) {
	most := ^uint64(0)
	for _, a := range []El{{[5]uint64{most, most, most, most, most}}, {[5]uint64{0, 0, 0, 0, most}}, {[5]uint64{most, 0, 0, 0, 0}}} {
		check(t, "carried", a.carried(), value(a))
	}
}

// Made of bytes and of words, limbs have nothing to carry.
func TestMadeWhole(t *testing.T) {
	for _, v := range []uint64{0, 1, full, full + 1, ^uint64(0)} {
		if a := Small(v); a != a.whole() || value(a).Cmp(new(big.Int).SetUint64(v)) != 0 {
			t.Errorf("Small(%d): %v", v, a.limbs)
		}
	}
	if a, ok := New(api.Hash{31: 0x7f}); !ok || a != a.whole() {
		t.Errorf("New: %v %v", a.limbs, ok)
	}
}
