package cert_test

import (
	"bytes"
	"crypto/ed25519"
	"encoding/binary"
	"math/rand"
	"slices"
	"testing"

	"witan/api"
	"witan/cert"
	"witan/curve"
	"witan/ring"
	"witan/scalar"
	"witan/sha"
	"witan/sign"
)

// sizes are the numbers of replicas that a ring may have.
var sizes = []int{1, 4, 7}

// seedOf answers the seed of replica i, for tests.
func seedOf(i int) api.Hash {
	return api.Hash{0: byte(i), 31: 8}
}

// ringOf answers the ring of the first n replicas.
func ringOf(t testing.TB, n int) *ring.Ring {
	t.Helper()
	var keys []api.Hash
	for i := range n {
		keys = append(keys, sign.Public(seedOf(i)))
	}
	r, err := ring.New(keys...)
	if err != api.OK || r == nil {
		t.Fatalf("the ring of %d: %v", n, err)
	}
	return r
}

// said answers what is signed of a body under a tag, as layer 7's words have it, made without the program.
func said(tag api.Tag, body []byte) []byte {
	b := append([]byte("witan"), byte(tag))
	return append(binary.BigEndian.AppendUint64(b, uint64(len(body))), body...)
}

// share answers replica i's share, by Go's own Ed25519.
func share(i int, tag api.Tag, body []byte) api.Share {
	seed := seedOf(i)
	return api.Share{From: i, Sig: api.Sig(ed25519.Sign(ed25519.NewKeyFromSeed(seed[:]), said(tag, body)))}
}

// shares answers the shares of these replicas, in that order.
func shares(tag api.Tag, body []byte, from ...int) []api.Share {
	var all []api.Share
	for _, i := range from {
		all = append(all, share(i, tag, body))
	}
	return all
}

// another answers a share of replica i that is right too, but another one for each nonce: nobody makes a signer take the nonce that layer 6 takes.
func another(i int, tag api.Tag, body []byte, nonce byte) api.Share {
	seed := seedOf(i)
	d := sha.Sum512(seed[:])
	d[0], d[31] = d[0]&0xf8, d[31]&0x7f|0x40
	var wide [64]byte
	copy(wide[:32], d[:32])
	a, n := scalar.Wide(wide), scalar.Wide([64]byte{nonce, 1})
	point, key := curve.Base().Mul(n.Hash()).Hash(), sign.Public(seed)
	k := scalar.Wide(sha.Sum512(point[:], key[:], said(tag, body)))
	s := n.Add(k.Mul(a)).Hash()
	return api.Share{From: i, Sig: api.Sig(slices.Concat(point[:], s[:]))}
}

// laid answers a certificate's bytes as the chapter's words have them, made without the program.
func laid(c api.Cert) []byte {
	b := binary.BigEndian.AppendUint64(nil, uint64(len(c.Body)))
	b = append(b, c.Body...)
	b = binary.BigEndian.AppendUint64(b, uint64(len(c.Signers)))
	for i, s := range c.Signers {
		b = binary.BigEndian.AppendUint64(b, uint64(s))
		var sig api.Sig
		if i < len(c.Sigs) {
			sig = c.Sigs[i]
		}
		b = append(b, sig[:]...)
	}
	return b
}

// same tells whether two certificates are one; nil and empty lists are.
func same(a, b api.Cert) bool {
	return bytes.Equal(a.Body, b.Body) && slices.Equal(a.Signers, b.Signers) && slices.Equal(a.Sigs, b.Sigs)
}

// clone answers a certificate that shares no memory with c.
func clone(c api.Cert) api.Cert {
	return api.Cert{Body: slices.Clone(c.Body), Signers: slices.Clone(c.Signers), Sigs: slices.Clone(c.Sigs)}
}

// noise answers n bytes of anything.
func noise(rnd *rand.Rand, n int) []byte {
	b := make([]byte, n)
	rnd.Read(b)
	return b
}

// certOf answers the certificate of these shares, of which Make is to take the given ones.
func certOf(tag api.Tag, body []byte, taken ...api.Share) api.Cert {
	c := api.Cert{Body: slices.Clone(body)}
	for _, s := range taken {
		c.Signers = append(c.Signers, s.From)
		c.Sigs = append(c.Sigs, s.Sig)
	}
	return c
}

// makes asks for a certificate, which is to be want; no certificate at all, if want has no signers.
func makes(t *testing.T, r *ring.Ring, tag api.Tag, body []byte, of []api.Share, want api.Cert) {
	t.Helper()
	c, err := cert.Make(r, tag, body, of...)
	if len(want.Signers) == 0 {
		if err != api.ErrFew || !same(c, api.Cert{}) {
			t.Errorf("of %d shares, which are too few: %v, %v", len(of), c.Signers, err)
		}
		return
	}
	if err != api.OK || !same(c, want) {
		t.Errorf("of %d shares: %v by %v, not %v", len(of), err, c.Signers, want.Signers)
		return
	}
	checks(t, r, tag, c, api.OK)
}

// checks asks twice, since a ring keeps what it verified.
func checks(t *testing.T, r *ring.Ring, tag api.Tag, c api.Cert, want api.Errno) {
	t.Helper()
	for range 2 {
		if err := cert.Check(r, tag, c); err != want {
			t.Errorf("signers %v, %d signatures, tag %d: %v, not %v", c.Signers, len(c.Sigs), tag, err, want)
		}
	}
}

// parses reads bytes, which is to answer want, and no certificate beside an error.
func parses(t *testing.T, b []byte, want api.Cert, err api.Errno) {
	t.Helper()
	got, e := cert.Parse(b)
	if e != err || !same(got, want) {
		t.Errorf("of %d bytes: %v by %d signers, not %v by %d", len(b), e, len(got.Signers), err, len(want.Signers))
	}
}
