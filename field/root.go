package field

// Inv answers 1 divided by a; 0 of 0.
func (a El) Inv() El {
	// a to the p - 2, which is 32 times 2^250 - 1, and 11.
	two := a.Mul(a)
	eleven := two.squared(2).Mul(two).Mul(a)
	return a.ones().squared(5).Mul(eleven)
}

// Root answers the even x with v x x = u; false: there is none, or v is 0.
func Root(u, v El) (El, bool) {
	if v.is(El{}) {
		return El{}, false
	}
	// Of a quotient that has a root, x x v is u or -u, if x is u v^3 (u v^7)^((p - 5) / 8): there are four roots of 1, and p is 5 modulo 8. It takes no inverse.
	three := v.Mul(v).Mul(v)
	x := u.Mul(three).Mul(u.Mul(three).Mul(three).Mul(v).eighth())
	if !x.Mul(x).Mul(v).is(u) {
		// Of -u it was; this root of -1 makes it u.
		x = x.Mul(El{[5]uint64{1718705420411056, 234908883556509, 2233514472574048, 2117202627021982, 765476049583133}})
	}
	if !x.Mul(x).Mul(v).is(u) {
		return El{}, false
	}
	if x.Odd() {
		x = El{}.Sub(x)
	}
	return x, true
}

// is tells whether a and b are one number.
func (a El) is(b El) bool {
	return a.whole() == b.whole()
}

// eighth answers a to the (p - 5) / 8.
func (a El) eighth() El {
	// That is 4 times 2^250 - 1, and 1.
	return a.ones().squared(2).Mul(a)
}

// ones answers a to the 2^250 - 1.
func (a El) ones() El {
	// Each line has so many ones as binary digits: those of a line above, moved up, and those of one above at their foot.
	two := a.squared(1).Mul(a)
	four := two.squared(2).Mul(two)
	five := four.squared(1).Mul(a)
	ten := five.squared(5).Mul(five)
	twenty := ten.squared(10).Mul(ten)
	forty := twenty.squared(20).Mul(twenty)
	fifty := forty.squared(10).Mul(ten)
	hundred := fifty.squared(50).Mul(fifty)
	return hundred.squared(100).Mul(hundred).squared(50).Mul(fifty)
}

// squared answers a, squared n times over.
func (a El) squared(n int) El {
	for range n {
		a = a.Mul(a)
	}
	return a
}
