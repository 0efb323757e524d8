package cert_test

import (
	"bytes"
	"math"
	"math/rand"
	"slices"
	"testing"

	"witan/api"
)

// P8.2: of all numbers of signers and of signatures a quorum's alone are enough, whatever else is wrong.
func TestCounts(t *testing.T) {
	body := []byte("counts")
	for _, n := range sizes {
		r := ringOf(t, n)
		quorum := n - n/3
		all := certOf(api.TagRoot, body, shares(api.TagRoot, body, 0, 1, 2, 3, 4, 5, 6, 7)...)
		for signers := range 9 {
			for sigs := range 9 {
				c := api.Cert{Body: body, Signers: all.Signers[:signers], Sigs: all.Sigs[:sigs]}
				want := api.ErrFew
				if signers == quorum && sigs == quorum {
					want = api.OK
				}
				checks(t, r, api.TagRoot, c, want)
				checks(t, nil, api.TagRoot, c, api.ErrFew)
				if want == api.ErrFew { // that is told first, ahead of wrong orders and signatures
					none := api.Cert{Body: body, Signers: make([]int, signers), Sigs: make([]api.Sig, sigs)}
					checks(t, r, api.TagRoot, none, api.ErrFew)
					checks(t, r, api.TagCommit, c, api.ErrFew)
				}
			}
		}
		checks(t, r, api.TagRoot, api.Cert{}, api.ErrFew)
		checks(t, r, api.TagRoot, api.Cert{Body: body}, api.ErrFew)
		checks(t, r, api.TagRoot, api.Cert{Body: body, Signers: make([]int, 1<<19), Sigs: make([]api.Sig, 1<<19)}, api.ErrFew)
	}
	checks(t, nil, 0, api.Cert{}, api.ErrFew)
}

// P8.2: of all lists of signers about the replicas' numbers the rising ones of replicas alone are in order, with signatures that are right wherever they can be.
func TestOrders(t *testing.T) {
	body := []byte("orders")
	r := ringOf(t, 4)
	ours := shares(api.TagRoot, body, 0, 1, 2, 3)
	for a := -2; a < 6; a++ {
		for b := -2; b < 6; b++ {
			for c := -2; c < 6; c++ {
				of := certOf(api.TagRoot, body, api.Share{From: a}, api.Share{From: b}, api.Share{From: c})
				for i, s := range of.Signers {
					of.Sigs[i] = ours[(s+4)%4].Sig
				}
				want := api.ErrOrder
				if 0 <= a && a < b && b < c && c < 4 {
					want = api.OK
				}
				checks(t, r, api.TagRoot, of, want)
				if want == api.ErrOrder { // that is told ahead of signatures that aren't right
					clear(of.Sigs)
					checks(t, r, api.TagRoot, of, want)
				}
			}
		}
	}
}

// P8.2: numbers that are no replica's by far, at each place, and the wrong order at each pair of places.
func TestNoReplica(t *testing.T) {
	body := []byte("none")
	for _, n := range sizes {
		r := ringOf(t, n)
		quorum := n - n/3
		good := certOf(api.TagRoot, body, shares(api.TagRoot, body, 0, 1, 2, 3, 4)[:quorum]...)
		checks(t, r, api.TagRoot, good, api.OK)
		for i := range quorum {
			for _, from := range []int{-1, -n, n, n + i, i + 256, i + 1<<32, math.MaxInt, math.MinInt, math.MinInt + i} {
				c := clone(good)
				c.Signers[i] = from
				checks(t, r, api.TagRoot, c, api.ErrOrder)
			}
			for j := range i {
				c := clone(good)
				c.Signers[i], c.Signers[j] = c.Signers[j], c.Signers[i]
				checks(t, r, api.TagRoot, c, api.ErrOrder)
				c.Sigs[i], c.Sigs[j] = c.Sigs[j], c.Sigs[i]
				checks(t, r, api.TagRoot, c, api.ErrOrder)
				c = clone(good)
				c.Signers[i], c.Sigs[i] = c.Signers[j], c.Sigs[j]
				checks(t, r, api.TagRoot, c, api.ErrOrder)
			}
		}
	}
}

// P8.2: each signature has to be right, at each place, of that replica.
func TestSignatures(t *testing.T) {
	rnd := rand.New(rand.NewSource(84))
	body := []byte("signatures")
	for _, n := range sizes {
		r := ringOf(t, n)
		from := rnd.Perm(n)[:n-n/3]
		slices.Sort(from)
		good := certOf(api.TagCommit, body, shares(api.TagCommit, body, from...)...)
		checks(t, r, api.TagCommit, good, api.OK)
		for i := range good.Sigs {
			for range 8 {
				c := clone(good)
				c.Sigs[i][rnd.Intn(64)] ^= 1 << rnd.Intn(8)
				checks(t, r, api.TagCommit, c, api.ErrSign)
			}
			for _, sig := range []api.Sig{{}, share((from[i]+1)%8, api.TagCommit, body).Sig, share(from[i], api.TagRoot, body).Sig, share(from[i], api.TagCommit, nil).Sig} {
				c := clone(good)
				c.Sigs[i] = sig
				checks(t, r, api.TagCommit, c, api.ErrSign)
			}
			for j := range i {
				c := clone(good)
				c.Sigs[i], c.Sigs[j] = c.Sigs[j], c.Sigs[i]
				checks(t, r, api.TagCommit, c, api.ErrSign)
			}
			c := clone(good)
			c.Sigs[i] = another(from[i], api.TagCommit, body, 7).Sig
			checks(t, r, api.TagCommit, c, api.OK)
		}
		checks(t, r, api.TagCommit, good, api.OK)
	}
}

// P8.2: under that tag alone, and of that body alone, also once the right one is kept.
func TestTagAndBody(t *testing.T) {
	r, body := ringOf(t, 4), []byte{1, 2, 3}
	good := certOf(api.TagView, body, shares(api.TagView, body, 0, 1, 3)...)
	for range 2 {
		for tag := range 256 {
			want := api.ErrSign
			if api.Tag(tag) == api.TagView {
				want = api.OK
			}
			checks(t, r, api.Tag(tag), good, want)
		}
		for bit := range 8 * len(body) {
			c := clone(good)
			c.Body[bit/8] ^= 1 << (bit % 8)
			checks(t, r, api.TagView, c, api.ErrSign)
		}
		for _, other := range [][]byte{nil, {1, 2}, {2, 3}, {1, 2, 3, 0}, {0, 1, 2, 3}} {
			c := clone(good)
			c.Body = other
			checks(t, r, api.TagView, c, api.ErrSign)
		}
	}
}

// A certificate that is checked stays as it is, spare room too, and isn't kept.
func TestCheckHandedIn(t *testing.T) {
	r := ringOf(t, 4)
	body := append([]byte("body"), bytes.Repeat([]byte{0xee}, 9)...)
	whole := certOf(api.TagRoot, body, shares(api.TagRoot, body[:4], 0, 1, 2, 3)...)
	before := clone(whole)
	c := api.Cert{Body: whole.Body[:4], Signers: whole.Signers[:3], Sigs: whole.Sigs[:3]}
	checks(t, r, api.TagRoot, c, api.OK)
	if !same(whole, before) {
		t.Error("what was handed in changed")
	}
	c.Body[0]++
	checks(t, r, api.TagRoot, c, api.ErrSign)
	c.Body[0]--
	c.Sigs[2][9]++
	checks(t, r, api.TagRoot, c, api.ErrSign)
	c.Sigs[2][9]--
	checks(t, r, api.TagRoot, c, api.OK)
}
