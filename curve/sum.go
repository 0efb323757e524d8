package curve

import (
	"witan/api"
	"witan/field"
)

// addend is a point as it is added to others: Y + X, Y - X, 2 Z and 2 d T. What is added often is laid so once.
type addend struct{ plus, minus, z, t field.El }

// row is a point, to be taken a number of times: its odd multiples from 1 to 15, and the number's digits, which tell where they come in.
type row struct {
	multiples [8]addend
	digits    [256]byte
}

// Add answers p + q.
func (p Point) Add(q Point) Point {
	return p.plus(q.addend())
}

// Mul answers the sum of n points p, n's bytes being the least first.
func (p Point) Mul(n api.Hash) Point {
	return total(p.row(n))
}

// Both answers the sum of n base points and m points p.
func Both(n api.Hash, p Point, m api.Hash) Point {
	return total(Base().row(n), p.row(m))
}

// addend answers the point as it is added.
func (p Point) addend() addend {
	p = p.whole()
	return addend{p.y.Add(p.x), p.y.Sub(p.x), p.z.Add(p.z), p.t.Add(p.t).Mul(factor())}
}

// plus answers p + q. Since d is no square, the divisors are never 0: no two points are a case of their own.
func (p Point) plus(q addend) Point {
	p = p.whole()
	unlike, like := p.y.Sub(p.x).Mul(q.minus), p.y.Add(p.x).Mul(q.plus)
	z, t := p.z.Mul(q.z), p.t.Mul(q.t)
	// The sum is (e / g, h / f).
	e, f, g, h := like.Sub(unlike), z.Sub(t), z.Add(t), like.Add(unlike)
	return Point{e.Mul(f), g.Mul(h), f.Mul(g), e.Mul(h)}
}

// doubled answers the point, doubled so many times over.
func (p Point) doubled(times int) Point {
	if p == (Point{}) {
		return p
	}
	for i := range times {
		xx, yy, zz, xy := p.x.Mul(p.x), p.y.Mul(p.y), p.z.Mul(p.z), p.x.Mul(p.y)
		// The curve's equation gives the divisors: 1 + d x x y y is y y - x x, and both together are 2. The sum is (e / g, h / f).
		e, g, h := xy.Add(xy), yy.Sub(xx), yy.Add(xx)
		f := zz.Add(zz).Sub(g)
		p = Point{x: e.Mul(f), y: g.Mul(h), z: f.Mul(g)}
		if i == times-1 { // no doubling asks for the T of the one ahead of it
			p.t = e.Mul(h)
		}
	}
	return p
}

// row answers the point as it is taken n times.
func (p Point) row(n api.Hash) row {
	r := row{digits: digits(n)}
	two := p.doubled(1).addend()
	for i := range r.multiples {
		r.multiples[i] = p.addend()
		p = p.plus(two)
	}
	return r
}

// digits answers n as odd digits up to 15, each at the number of its lowest bit, and 0 where none stands. There is about one to five bits, so that sums are few.
func digits(n api.Hash) [256]byte {
	var d [256]byte
	first := -4
	for i := range d {
		if n[i/8]>>(i%8)&1 == 0 {
			continue
		}
		if i >= first+4 {
			first = i
		}
		d[first] |= 1 << (i - first)
	}
	return d
}

// total answers the sum of what all rows say.
func total(rows ...row) Point {
	var p Point
	waiting := 0 // doublings, till a digit comes
	for i := range 256 {
		waiting++
		for j := range rows {
			if v := rows[j].digits[255-i]; v > 0 {
				p = p.doubled(waiting).plus(rows[j].multiples[v/2])
				waiting = 0
			}
		}
	}
	return p.doubled(waiting)
}
