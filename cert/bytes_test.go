package cert_test

import (
	"bytes"
	"encoding/binary"
	"encoding/hex"
	"math"
	"math/rand"
	"slices"
	"strings"
	"testing"

	"witan/api"
	"witan/cert"
)

// random answers a certificate of so many signers, whose numbers may be read.
func random(rnd *rand.Rand, body, signers int) api.Cert {
	c := api.Cert{Body: noise(rnd, body)}
	for range signers {
		c.Signers = append(c.Signers, rnd.Intn(api.MaxCount+1))
		c.Sigs = append(c.Sigs, api.Sig(noise(rnd, 64)))
	}
	return c
}

// P8.3: bytes that this test has written out.
func TestWrittenOut(t *testing.T) {
	c := api.Cert{Body: []byte("ab"), Signers: []int{3, 0x1_0000}, Sigs: []api.Sig{{0: 0xa1, 63: 0xa2}, {0: 0xb1, 63: 0xb2}}}
	nought := strings.Repeat("00", 62)
	want := "0000000000000002" + "6162" + "0000000000000002" +
		"0000000000000003" + "a1" + nought + "a2" +
		"0000000000010000" + "b1" + nought + "b2"
	if got := hex.EncodeToString(cert.Bytes(c)); got != want {
		t.Errorf("%s", got)
	}
	b, err := hex.DecodeString(want)
	if err != nil {
		t.Fatal(err)
	}
	parses(t, b, c, api.OK)
	if got := hex.EncodeToString(cert.Bytes(api.Cert{})); got != strings.Repeat("00", 16) {
		t.Errorf("the zero certificate: %s", got)
	}
	parses(t, make([]byte, 16), api.Cert{}, api.OK)
}

// P8.3: certificates of all kinds against the chapter's words, and read again.
func TestThereAndBack(t *testing.T) {
	rnd := rand.New(rand.NewSource(85))
	for _, body := range []int{0, 1, 44, 255, 256, 70000} {
		for _, signers := range []int{0, 1, 2, 3, 5, 7, 255, 256, 300} {
			c := random(rnd, body, signers)
			b := cert.Bytes(c)
			if !bytes.Equal(b, laid(c)) {
				t.Errorf("a body of %d, %d signers: %d bytes", body, signers, len(b))
			}
			parses(t, b, c, api.OK)
		}
	}
	c := random(rnd, 5, api.MaxCount)
	parses(t, cert.Bytes(c), c, api.OK)
}

// P8.3: Parse of Bytes of a certificate that is checked is it.
func TestCheckedIsRead(t *testing.T) {
	for _, n := range sizes {
		r := ringOf(t, n)
		for _, body := range [][]byte{nil, []byte("checked")} {
			from := []int{0, 1, 2, 3, 4, 5, 6}[n/3 : n]
			c, err := cert.Make(r, api.TagRoot, body, shares(api.TagRoot, body, from...)...)
			if err != api.OK {
				t.Fatal(err)
			}
			read, err := cert.Parse(cert.Bytes(c))
			if err != api.OK || !same(read, c) {
				t.Errorf("of %d: %v, signers %v", n, err, read.Signers)
			}
			checks(t, r, api.TagRoot, read, api.OK)
		}
	}
}

// P8.3: signers below 0 are laid as 2^64 less; of signatures that are missing noughts, more ones passed over.
func TestOddBytes(t *testing.T) {
	rnd := rand.New(rand.NewSource(86))
	for _, x := range []struct {
		signer int
		want   uint64
	}{{-1, math.MaxUint64}, {-2, math.MaxUint64 - 1}, {-65536, math.MaxUint64 - 65535}, {math.MinInt, 1 << 63}, {math.MaxInt, 1<<63 - 1}} {
		c := random(rnd, 3, 3)
		c.Signers[1] = x.signer
		b := cert.Bytes(c)
		if !bytes.Equal(b, laid(c)) || binary.BigEndian.Uint64(b[8+3+8+72:]) != x.want {
			t.Errorf("the signer %d: %x", x.signer, b[8+3+8+72:][:8])
		}
		parses(t, b, api.Cert{}, api.ErrForm)
	}
	for signers := range 5 {
		for sigs := range 7 {
			c := random(rnd, 3, 7)
			c.Signers, c.Sigs = c.Signers[:signers], c.Sigs[:sigs]
			b := cert.Bytes(c)
			if !bytes.Equal(b, laid(c)) || len(b) != 8+3+8+72*signers {
				t.Errorf("%d signers, %d signatures: %d bytes", signers, sigs, len(b))
			}
			want := clone(c)
			want.Sigs = append(want.Sigs, make([]api.Sig, 7)...)[:signers]
			parses(t, b, want, api.OK)
		}
	}
	none := api.Cert{Signers: []int{9, 8, 7}}
	if b := cert.Bytes(none); !bytes.Equal(b, laid(none)) {
		t.Errorf("no signatures: %x", b)
	}
	spare := api.Cert{Sigs: []api.Sig{{1}, {2}}}
	if b := cert.Bytes(spare); !bytes.Equal(b, make([]byte, 16)) {
		t.Errorf("signatures alone: %x", b)
	}
}

// P8.3: what is more than may be read is laid all the same, and refused.
func TestTooMany(t *testing.T) {
	rnd := rand.New(rand.NewSource(87))
	for _, c := range []api.Cert{
		random(rnd, 0, api.MaxCount+1),
		random(rnd, api.MaxBytes+1, 1),
		random(rnd, api.MaxBytes+1, 0),
		{Signers: make([]int, 1<<20)},
	} {
		b := cert.Bytes(c)
		if !bytes.Equal(b, laid(c)) {
			t.Errorf("a body of %d, %d signers: other bytes", len(c.Body), len(c.Signers))
		}
		parses(t, b, api.Cert{}, api.ErrBig)
		parses(t, b[:len(b)/2], api.Cert{}, api.ErrBig)
	}
	for _, x := range []uint64{api.MaxBytes + 1, 1 << 32, 1 << 63, math.MaxUint64} {
		parses(t, binary.BigEndian.AppendUint64(nil, x), api.Cert{}, api.ErrBig)
	}
	for _, x := range []uint64{api.MaxCount + 1, 1 << 32, 1 << 63, math.MaxUint64} {
		parses(t, binary.BigEndian.AppendUint64(make([]byte, 8), x), api.Cert{}, api.ErrBig)
		parses(t, append(binary.BigEndian.AppendUint64(make([]byte, 8), x), make([]byte, 999)...), api.Cert{}, api.ErrBig)
	}
	parses(t, binary.BigEndian.AppendUint64(nil, api.MaxBytes), api.Cert{}, api.ErrShort)
	parses(t, binary.BigEndian.AppendUint64(make([]byte, 8), api.MaxCount), api.Cert{}, api.ErrShort)
}

// P8.3: bytes that end too early, at each place, or are left.
func TestEnds(t *testing.T) {
	rnd := rand.New(rand.NewSource(88))
	for _, signers := range []int{0, 1, 3} {
		c := random(rnd, 5, signers)
		b := cert.Bytes(c)
		for n := range b {
			parses(t, b[:n], api.Cert{}, api.ErrShort)
		}
		parses(t, b, c, api.OK)
		for _, more := range []int{1, 8, 64, 72, 1000} {
			parses(t, append(slices.Clone(b), make([]byte, more)...), api.Cert{}, api.ErrTrail)
		}
	}
	parses(t, nil, api.Cert{}, api.ErrShort)
	parses(t, []byte{}, api.Cert{}, api.ErrShort)
}

// P8.3: a signer's number above MaxCount, at each place; layer 1's error is told ahead of it.
func TestSignersNumbers(t *testing.T) {
	rnd := rand.New(rand.NewSource(89))
	for _, signers := range []int{1, 3, 5} {
		for i := range signers {
			c := random(rnd, 4, signers)
			c.Signers[i] = api.MaxCount
			parses(t, laid(c), c, api.OK)
			for _, v := range []int{api.MaxCount + 1, 1 << 20, 1 << 32, 1<<32 + 1, math.MaxInt, math.MinInt, math.MinInt + 1, -1, -api.MaxCount, -1 << 32} {
				c.Signers[i] = v
				b := laid(c)
				parses(t, b, api.Cert{}, api.ErrForm)
				parses(t, b[:len(b)-1], api.Cert{}, api.ErrShort)
				parses(t, append(slices.Clone(b), 0), api.Cert{}, api.ErrTrail)
			}
		}
	}
}

// P8.3: order isn't asked of what is read, nor whether it is signed.
func TestAnySigners(t *testing.T) {
	for _, signers := range [][]int{{0, 0, 0}, {3, 2, 1}, {65536, 0, 65536}, {9}} {
		c := api.Cert{Body: []byte("any"), Signers: signers, Sigs: make([]api.Sig, len(signers))}
		parses(t, laid(c), c, api.OK)
	}
}

// What is handed to Bytes and Parse stays as it is, spare room too; their answers don't hang on it later.
func TestBytesHandedIn(t *testing.T) {
	rnd := rand.New(rand.NewSource(90))
	whole := random(rnd, 9, 5)
	c := api.Cert{Body: whole.Body[:4], Signers: whole.Signers[:3], Sigs: whole.Sigs[:2]}
	wholeBefore, cBefore := clone(whole), clone(c)
	b := cert.Bytes(c)
	want := slices.Clone(b)
	if !same(whole, wholeBefore) {
		t.Error("the certificate changed")
	}
	room := append(slices.Clone(b), bytes.Repeat([]byte{0xee}, 99)...)
	roomBefore := slices.Clone(room)
	read, err := cert.Parse(room[:len(b)])
	if err != api.OK || !bytes.Equal(room, roomBefore) {
		t.Fatalf("%v, or the bytes changed", err)
	}
	clear(whole.Body)
	clear(whole.Signers)
	clear(whole.Sigs)
	clear(room)
	if !bytes.Equal(b, want) {
		t.Error("the bytes changed with the certificate")
	}
	cBefore.Sigs = append(cBefore.Sigs, api.Sig{})
	if !same(read, cBefore) {
		t.Error("the certificate changed with its bytes")
	}
	clear(read.Body[:cap(read.Body)])
	clear(read.Signers[:cap(read.Signers)])
	clear(read.Sigs[:cap(read.Sigs)])
	parses(t, want, cBefore, api.OK)
	clear(b[:cap(b)])
	if !bytes.Equal(cert.Bytes(cBefore), want) {
		t.Error("two answers share memory")
	}
}

// FuzzParse holds what is read against the chapter's words: bytes have one form alone.
func FuzzParse(f *testing.F) {
	rnd := rand.New(rand.NewSource(91))
	for signers := range 4 {
		f.Add(laid(random(rnd, signers, signers)))
	}
	f.Add([]byte{})
	f.Add(laid(api.Cert{Signers: []int{-1}}))
	f.Add(binary.BigEndian.AppendUint64(make([]byte, 8), api.MaxCount+1))
	r := ringOf(f, 4)
	f.Fuzz(func(t *testing.T, b []byte) {
		before := slices.Clone(b)
		c, err := cert.Parse(b)
		if !bytes.Equal(b, before) {
			t.Fatal("the bytes changed")
		}
		switch err {
		case api.OK:
			for _, s := range c.Signers {
				if s < 0 || s > api.MaxCount {
					t.Errorf("the signer %d", s)
				}
			}
			if len(c.Signers) != len(c.Sigs) || !bytes.Equal(cert.Bytes(c), b) || !bytes.Equal(laid(c), b) {
				t.Errorf("%d signers, %d signatures, of %x", len(c.Signers), len(c.Sigs), b)
			}
		case api.ErrShort, api.ErrTrail, api.ErrBig, api.ErrForm:
			if !same(c, api.Cert{}) {
				t.Errorf("beside %v: %v", err, c)
			}
		default:
			t.Errorf("%v", err)
		}
		if cert.Check(r, api.TagRoot, c) == api.OK {
			t.Errorf("a certificate that nobody signed: %x", b)
		}
	})
}
