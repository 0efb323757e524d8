package msg_test

import (
	"bytes"
	"encoding/binary"
	"math/rand"
	"slices"
	"testing"

	"witan/api"
	"witan/msg"
)

// back lays m and reads it, which is to be it.
func back(t *testing.T, m api.Msg) {
	t.Helper()
	b := msg.Bytes(m)
	parses(t, b, m, api.OK)
	read, err := msg.Parse(b)
	if err != api.OK || !bytes.Equal(msg.Bytes(read), b) {
		t.Errorf("kind %d: %v, or other bytes", m.Kind, err)
	}
}

// P16.3: a message within the bounds is read as itself.
func TestThereAndBack(t *testing.T) {
	rnd := rand.New(rand.NewSource(201))
	for _, k := range kinds {
		back(t, api.Msg{Kind: k})
		for range 60 {
			back(t, only(random(rnd, k)))
		}
	}
}

// P16.3: everything at its greatest.
func TestAllGreatest(t *testing.T) {
	u := api.Update{Id: hashOf(255), Version: 64, Key: hashOf(255), Sig: full(255)}
	c := api.Cert{Body: []byte{255}, Signers: []int{65536, 0, 65536}, Sigs: []api.Sig{full(255), {}, full(1)}}
	us := []api.Update{u, {}, u, u}
	p := api.Proof{View: most, Seq: most, Batch: us, Cert: c}
	x := api.Msg{Kind: api.TagChange, From: 6, View: most, Cert: c, Proofs: []api.Proof{p, {}, p, p}, Sig: full(255)}
	back(t, x)
	back(t, api.Msg{Kind: api.TagView, From: 6, View: most, Changes: []api.Msg{x, x, {Kind: api.TagChange}, x, x, x, x}, Sig: full(255)})
	back(t, api.Msg{Kind: api.TagPropose, From: 6, View: most, Seq: most, Batch: us, Sig: full(255)})
	back(t, api.Msg{Kind: api.TagRequest, From: 6, Batch: us})
	back(t, api.Msg{Kind: api.TagRoot, From: 6, Seq: most, Hash: hashOf(255), Sig: full(255)})
	back(t, api.Msg{Kind: api.TagCommit, From: 6, View: most, Seq: most, Hash: hashOf(255), Sig: full(255)})
	rnd := rand.New(rand.NewSource(202))
	back(t, api.Msg{Kind: api.TagLatest, From: 6, Cert: certificate(rnd, 14000)})
	back(t, api.Msg{Kind: api.TagChange, Proofs: []api.Proof{{Cert: certificate(rnd, 14000)}, {Cert: certificate(rnd, 14000)}}})
}

// P16.3: a message is its sender's still when it was read.
func TestOpenRead(t *testing.T) {
	rnd := rand.New(rand.NewSource(203))
	r := ringOf(t, 7)
	for _, k := range kinds {
		m := random(rnd, k)
		m = msg.Seal(seedOf(m.From), m)
		read, err := msg.Parse(msg.Bytes(m))
		if err != api.OK {
			t.Fatal(err)
		}
		opens(t, r, read, isSigned(k))
		if !isSigned(k) && read.Sig != (api.Sig{}) {
			t.Errorf("kind %d: a signature was read", k)
		}
	}
}

// P16.3: unlike messages have unlike bytes, and unlike bytes are unlike messages.
func TestOneForm(t *testing.T) {
	rnd := rand.New(rand.NewSource(204))
	for _, k := range kinds {
		b := laid(only(one(rnd, k)))
		for i := range b {
			x := slices.Clone(b)
			x[i] ^= 1 << rnd.Intn(8)
			follows(t, x)
		}
	}
}

// follows reads bytes, which is to go as the chapter's words have it, and bytes that are read have one form alone.
func follows(t *testing.T, b []byte) {
	t.Helper()
	want, err := told(b)
	parses(t, b, want, err)
	if err == api.OK {
		if m, _ := msg.Parse(b); !bytes.Equal(msg.Bytes(m), b) {
			t.Errorf("of %x: other bytes", b)
		}
	}
}

// counts are numbers that may stand where there is another.
var counts = []uint64{0, 1, 2, 4, 5, 6, 7, 8, 64, 65, 65536, 65537, 1 << 20, 1<<20 + 1, most, most + 1, 1 << 32, 1<<64 - 1}

// spoilt answers bytes with something about them changed.
func spoilt(rnd *rand.Rand, b []byte) []byte {
	b = slices.Clone(b)
	at := rnd.Intn(len(b) + 1)
	switch rnd.Intn(6) {
	case 0:
		return b[:at]
	case 1:
		return slices.Insert(b, at, noise(rnd, 1+rnd.Intn(9))...)
	case 2:
		return slices.Delete(b, at, min(len(b), at+1+rnd.Intn(9)))
	case 3:
		if at+8 <= len(b) {
			binary.BigEndian.PutUint64(b[at:], counts[rnd.Intn(len(counts))])
		}
	case 4: // a number that is there, a little greater or less
		for i := at; i+8 <= len(b); i++ {
			if v := binary.BigEndian.Uint64(b[i:]); v < 5000 {
				binary.BigEndian.PutUint64(b[i:], v+uint64(rnd.Intn(5))-2)
				break
			}
		}
	default:
		if at < len(b) {
			b[at] ^= byte(1 + rnd.Intn(255))
		}
	}
	return b
}

// P16.2: messages of all kinds, spoilt in six ways, one or more of them, within changes too, against the chapter's words.
func TestSpoilt(t *testing.T) {
	rnd := rand.New(rand.NewSource(205))
	seen := map[api.Errno]int{}
	for i := range 20000 {
		k := kinds[i%len(kinds)]
		b := laid(only(one(rnd, k)))
		if k == api.TagView {
			cs := [][]byte{least, laid(only(one(rnd, api.TagChange))), laid(one(rnd, kinds[rnd.Intn(len(kinds))]))}
			cs[rnd.Intn(2)] = spoilt(rnd, cs[1])
			b = viewOf(0, 1, cs[:1+rnd.Intn(3)]...)
		}
		for range rnd.Intn(3) {
			b = spoilt(rnd, b)
		}
		follows(t, b)
		_, err := told(b)
		seen[err]++
	}
	for _, err := range []api.Errno{api.OK, api.ErrShort, api.ErrTrail, api.ErrBig, api.ErrForm, api.ErrKind} {
		if seen[err] < 100 {
			t.Errorf("%v was told %d times: the test is wrong", err, seen[err])
		}
	}
}

// FuzzParse holds what is read against the chapter's words.
func FuzzParse(f *testing.F) {
	rnd := rand.New(rand.NewSource(206))
	for _, k := range kinds {
		f.Add(laid(api.Msg{Kind: k}))
		f.Add(laid(one(rnd, k)))
	}
	f.Add([]byte{})
	f.Add([]byte{12})
	f.Add(viewOf(0, 1, least, viewOf(0, 1, least)))
	r := ringOf(f, 4)
	f.Fuzz(func(t *testing.T, b []byte) {
		follows(t, b)
		if m, _ := msg.Parse(b); msg.Open(r, m) {
			t.Errorf("a message that nobody signed: %x", b)
		}
	})
}
