package cert_test

import (
	"bytes"
	"math"
	"math/rand"
	"slices"
	"testing"

	"witan/api"
	"witan/cert"
	"witan/ring"
)

// The chapter's examples.
func TestExamples(t *testing.T) {
	r, body := ringOf(t, 4), []byte("body")
	of := shares(api.TagRoot, body, 2, 0, 3)
	c, err := cert.Make(r, api.TagRoot, body, of...)
	if err != api.OK || !slices.Equal(c.Signers, []int{0, 2, 3}) || !bytes.Equal(c.Body, body) {
		t.Fatalf("three shares: %v by %v", err, c.Signers)
	}
	checks(t, r, api.TagRoot, c, api.OK)
	checks(t, r, api.TagCommit, c, api.ErrSign)
	c.Signers[1], c.Sigs[1] = c.Signers[0], c.Sigs[0]
	checks(t, r, api.TagRoot, c, api.ErrOrder)
	if c, err := cert.Make(r, api.TagRoot, body, of[:2]...); err != api.ErrFew || !same(c, api.Cert{}) {
		t.Errorf("two shares: %v by %v", err, c.Signers)
	}
}

// P8.1: the shares of each set of replicas, in any order: a quorum's least numbers, or ErrFew.
func TestSets(t *testing.T) {
	rnd := rand.New(rand.NewSource(81))
	body := []byte("sets")
	for _, n := range sizes {
		r := ringOf(t, n)
		quorum := n - n/3
		for set := range 1 << n {
			var of []api.Share
			for i := range n {
				if set>>i&1 == 1 {
					of = append(of, share(i, api.TagRoot, body))
				}
			}
			want := api.Cert{}
			if len(of) >= quorum {
				want = certOf(api.TagRoot, body, of[:quorum]...)
			}
			for range 3 {
				rnd.Shuffle(len(of), func(i, j int) { of[i], of[j] = of[j], of[i] })
				makes(t, r, api.TagRoot, body, of, want)
			}
		}
	}
}

// P8.1: of a replica's right shares the first one, wherever the others' stand; it isn't the least one, nor the one that Seal makes.
func TestFirst(t *testing.T) {
	body := []byte("first")
	r := ringOf(t, 4)
	var a, b []api.Share
	for i := range 4 {
		a = append(a, share(i, api.TagCommit, body))
		b = append(b, another(i, api.TagCommit, body, byte(i)))
		if a[i] == b[i] || !r.Open(i, api.TagCommit, body, b[i].Sig) {
			t.Fatalf("replica %d: the test's other share isn't right, or is the same", i)
		}
	}
	for _, x := range []struct{ of, taken []api.Share }{
		{[]api.Share{a[0], b[0], a[1], b[1], a[2], b[2]}, []api.Share{a[0], a[1], a[2]}},
		{[]api.Share{b[0], a[0], b[1], a[1], b[2], a[2]}, []api.Share{b[0], b[1], b[2]}},
		{[]api.Share{a[3], b[1], b[0], a[0], a[1], b[3]}, []api.Share{b[0], b[1], a[3]}},
		{[]api.Share{b[3], b[2], b[1], b[0], a[0], a[1], a[2]}, []api.Share{b[0], b[1], b[2]}},
		{[]api.Share{a[0], a[0], a[0], b[0], b[0]}, nil},
		{[]api.Share{a[0], b[0], a[1], b[1]}, nil},
	} {
		makes(t, r, api.TagCommit, body, x.of, certOf(api.TagCommit, body, x.taken...))
	}
	for _, nonce := range []byte{1, 2, 3, 4} { // the first one is neither always the greater nor always the less
		c := another(3, api.TagCommit, body, nonce)
		d := another(3, api.TagCommit, body, nonce+10)
		makes(t, r, api.TagCommit, body, []api.Share{a[0], a[1], c, d, b[3]}, certOf(api.TagCommit, body, a[0], a[1], c))
		makes(t, r, api.TagCommit, body, []api.Share{d, c, b[3], a[0], a[1]}, certOf(api.TagCommit, body, a[0], a[1], d))
	}
}

// wrong answers shares of which none is right in a ring of n.
func wrong(n int, tag api.Tag, body []byte) []api.Share {
	var all []api.Share
	for i := range n {
		turned := share(i, tag, body)
		turned.Sig[(i*9)%64] ^= 1 << i
		all = append(all, turned, api.Share{From: i}, share(i, tag+1, body), share(i, tag, append(slices.Clone(body), 0)))
		for _, from := range []int{i + 1, i - 1, -i - 1, i + n, i - n, i + 256, i + 1<<32, math.MaxInt, math.MinInt} {
			all = append(all, api.Share{From: from, Sig: share(i, tag, body).Sig})
		}
	}
	outside := share(n, tag, body) // by a key that is no replica's
	return append(all, outside, api.Share{From: 0, Sig: outside.Sig}, api.Share{From: -1, Sig: outside.Sig})
}

// P8.1: shares that aren't right don't count, and don't stand in the way of right ones behind them.
func TestWrongShares(t *testing.T) {
	rnd := rand.New(rand.NewSource(82))
	for _, n := range sizes {
		r := ringOf(t, n)
		quorum := n - n/3
		for _, body := range [][]byte{nil, []byte("wrong")} {
			bad := wrong(n, api.TagPrepare, body)
			makes(t, r, api.TagPrepare, body, bad, api.Cert{})
			var good []api.Share
			for _, i := range rnd.Perm(n)[:quorum] {
				good = append(good, share(i, api.TagPrepare, body))
			}
			less := append(slices.Clone(bad), good[1:]...)
			makes(t, r, api.TagPrepare, body, less, api.Cert{})
			ahead, behind := append(slices.Clone(bad), good...), append(slices.Clone(good), bad...)
			mixed := slices.Clone(ahead)
			rnd.Shuffle(len(mixed), func(i, j int) { mixed[i], mixed[j] = mixed[j], mixed[i] })
			slices.SortFunc(good, func(a, b api.Share) int { return a.From - b.From })
			for _, of := range [][]api.Share{ahead, behind, mixed} {
				makes(t, r, api.TagPrepare, body, of, certOf(api.TagPrepare, body, good...))
			}
		}
	}
}

// P8.1: each share is asked for that tag and that body alone, ahead of and behind what the ring keeps of others.
func TestOtherStatements(t *testing.T) {
	r := ringOf(t, 4)
	bodies := [][]byte{nil, {0}, []byte("a"), []byte("ab")}
	tags := []api.Tag{0, api.TagPropose, api.TagPrepare, api.TagRoot, 255}
	for range 2 {
		for _, tag := range tags {
			for _, body := range bodies {
				of := shares(tag, body, 0, 1, 2)
				for _, other := range tags {
					for _, unlike := range bodies {
						want := api.Cert{}
						if tag == other && bytes.Equal(body, unlike) {
							want = certOf(tag, body, of...)
						}
						makes(t, r, other, unlike, of, want)
					}
				}
			}
		}
	}
}

// P8.1: a nil ring has no certificates, of whatever shares, none among them.
func TestNilMake(t *testing.T) {
	body := []byte("nil")
	for _, of := range [][]api.Share{nil, {}, shares(api.TagRoot, body, 0), shares(api.TagRoot, body, 0, 1, 2), {{From: -1}}} {
		makes(t, nil, api.TagRoot, body, of, api.Cert{})
		makes(t, nil, 0, nil, of, api.Cert{})
	}
	for _, n := range sizes {
		makes(t, ringOf(t, n), api.TagRoot, body, nil, api.Cert{})
		makes(t, ringOf(t, n), api.TagRoot, body, []api.Share{}, api.Cert{})
	}
}

// A body as great as may be, and a nil one, which is the empty one.
func TestBodies(t *testing.T) {
	rnd := rand.New(rand.NewSource(83))
	r := ringOf(t, 1)
	for _, body := range [][]byte{nil, {}, {0}, noise(rnd, api.MaxBytes-1), noise(rnd, api.MaxBytes)} {
		of := shares(api.TagView, body, 0)
		want := certOf(api.TagView, body, of...)
		makes(t, r, api.TagView, body, of, want)
		parses(t, cert.Bytes(want), want, api.OK)
	}
	of := shares(api.TagView, nil, 0)
	makes(t, r, api.TagView, []byte{}, of, certOf(api.TagView, nil, of...))
	checks(t, r, api.TagView, api.Cert{Body: nil, Signers: []int{0}, Sigs: []api.Sig{of[0].Sig}}, api.OK)
	checks(t, r, api.TagView, api.Cert{Body: []byte{}, Signers: []int{0}, Sigs: []api.Sig{of[0].Sig}}, api.OK)
}

// Many shares, right ones last: Make ends, and takes them.
func TestManyShares(t *testing.T) {
	r, body := ringOf(t, 4), []byte("many")
	good := shares(api.TagRoot, body, 1, 2, 3)
	of := make([]api.Share, 1<<20-3)
	for i := range of {
		of[i].From = 4 + i%9 // no replica's, so that the test is short
		of[i].Sig = good[i%3].Sig
	}
	makes(t, r, api.TagRoot, body, append(of, good...), certOf(api.TagRoot, body, good...))
	for i := range of {
		of[i] = good[0]
	}
	makes(t, r, api.TagRoot, body, of, api.Cert{})
}

// What is handed to Make stays as it is, spare room too; nor does its answer hang on it later.
func TestMakeHandedIn(t *testing.T) {
	r := ringOf(t, 4)
	room := append([]byte("body"), bytes.Repeat([]byte{0xee}, 40)...)
	body := room[:4]
	of := append(shares(api.TagRoot, body, 3, 1, 0, 2), api.Share{From: 99}, api.Share{From: 98})
	roomBefore, ofBefore := slices.Clone(room), slices.Clone(of)
	c, err := cert.Make(r, api.TagRoot, body, of[:4]...)
	if err != api.OK || !bytes.Equal(room, roomBefore) || !slices.Equal(of, ofBefore) {
		t.Fatalf("%v, or what was handed in changed", err)
	}
	before := clone(c)
	clear(room)
	clear(of)
	if !same(c, before) {
		t.Error("the certificate changed with what was handed in")
	}
	clear(c.Body[:cap(c.Body)])
	clear(c.Signers[:cap(c.Signers)])
	clear(c.Sigs[:cap(c.Sigs)])
	makes(t, r, api.TagRoot, roomBefore[:4], ofBefore, before)
	if !bytes.Equal(room, make([]byte, len(room))) || !slices.Equal(of, make([]api.Share, len(of))) {
		t.Error("a later call changed what was handed in earlier")
	}
}

// Make is told by the ring it is given, not by what others verified.
func TestUnlikeRings(t *testing.T) {
	four, seven := ringOf(t, 4), ringOf(t, 7)
	var keys []api.Hash
	for _, i := range []int{1, 0, 2, 3} {
		keys = append(keys, four.Key(i))
	}
	swapped, err := ring.New(keys...)
	if err != api.OK {
		t.Fatal(err)
	}
	body := []byte("rings")
	of := shares(api.TagRoot, body, 0, 1, 2, 3)
	c := certOf(api.TagRoot, body, of[:3]...)
	makes(t, four, api.TagRoot, body, of, c)
	makes(t, seven, api.TagRoot, body, of, api.Cert{})
	makes(t, swapped, api.TagRoot, body, of, api.Cert{})
	checks(t, seven, api.TagRoot, c, api.ErrFew)
	checks(t, swapped, api.TagRoot, c, api.ErrSign)
	of = append(of, share(4, api.TagRoot, body))
	makes(t, seven, api.TagRoot, body, of, certOf(api.TagRoot, body, of...))
	makes(t, four, api.TagRoot, body, of, c)
	checks(t, four, api.TagRoot, certOf(api.TagRoot, body, of...), api.ErrFew)
	checks(t, four, api.TagRoot, certOf(api.TagRoot, body, of[2:]...), api.ErrOrder)
}
