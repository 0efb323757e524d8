package hist_test

import (
	"bytes"
	"crypto/sha256"
	"encoding/binary"
	"encoding/hex"
	"math"
	"math/rand"
	"slices"
	"strings"
	"testing"

	"witan/api"
	"witan/hist"
)

// lays asks for a batch's bytes and its digest, which are to be as the chapter's words have them.
func lays(t *testing.T, us ...api.Update) []byte {
	t.Helper()
	want := laid(us...)
	got := hist.Bytes(us...)
	if !bytes.Equal(got, want) {
		t.Errorf("of %d updates: %d bytes that aren't these", len(us), len(got))
	}
	if d := hist.Digest(us...); d != sha256.Sum256(append([]byte{4}, want...)) {
		t.Errorf("of %d updates: the digest %x", len(us), d)
	}
	return got
}

// full answers an array of one byte, in all places.
func full(b byte) [64]byte {
	return [64]byte(bytes.Repeat([]byte{b}, 64))
}

// P11.3: bytes and digests that this test has written out.
func TestBatchWrittenOut(t *testing.T) {
	var u, v api.Update
	u.Sig, v.Sig = full(0x33), full(0x66)
	for i := range 32 {
		u.Id[i], u.Key[i], v.Id[i], v.Key[i] = 0x11, 0x22, 0x44, 0x55
	}
	u.Version, v.Version = 5, -1
	one := strings.Repeat("11", 32) + "0000000000000005" + strings.Repeat("22", 32) + strings.Repeat("33", 64)
	two := strings.Repeat("44", 32) + "ffffffffffffffff" + strings.Repeat("55", 32) + strings.Repeat("66", 64)
	for _, x := range []struct {
		us            []api.Update
		bytes, digest string
	}{
		{nil, "0000000000000000", "93e60f669b99ad3e3ee6284b139e57adfb419960f390858e46ea565bbf82d001"},
		{[]api.Update{u}, "0000000000000001" + one, "f0e0e3b4e78ab0f1f270802a6d7be1bdccbc7ba257e60b55a4a6455db06a1c42"},
		{[]api.Update{u, v}, "0000000000000002" + one + two, "3e6586716824af9cd6645297503b230b9f986f84e1cb1ebefe54aea30fa2ffa6"},
	} {
		if got := hex.EncodeToString(lays(t, x.us...)); got != x.bytes {
			t.Errorf("%s", got)
		}
		if d := hist.Digest(x.us...); d != unhex(t, x.digest) {
			t.Errorf("of %d updates: the digest %x", len(x.us), d)
		}
	}
	parses(t, make([]byte, 8), nil, api.OK)
	parses(t, laid(u), []api.Update{u}, api.OK)
	parses(t, laid(u, v), nil, api.ErrForm)
}

// P11.3: batches of all lengths, and read again: MaxBatch isn't asked, nor are signatures.
func TestThereAndBack(t *testing.T) {
	rnd := rand.New(rand.NewSource(117))
	for _, n := range []int{0, 1, 2, 3, api.MaxBatch, api.MaxBatch + 1, 7, 255, 256, 257, api.MaxCount} {
		us := random(rnd, n)
		parses(t, lays(t, us...), us, api.OK)
	}
	zero := make([]api.Update, 3)
	parses(t, lays(t, zero...), zero, api.OK)
	u := hist.Make(api.Hash{1}, 1, api.Hash{2})
	same := []api.Update{u, u, u}
	parses(t, lays(t, same...), same, api.OK)
	us, err := hist.Parse(hist.Bytes(u))
	if err != api.OK || len(us) != 1 || !hist.Signed(us[0]) {
		t.Errorf("a signed one: %v, %v", us, err)
	}
}

// P11.3: a version above MaxKeys, at each place; layer 1's error is told ahead of it.
func TestVersions(t *testing.T) {
	rnd := rand.New(rand.NewSource(118))
	for _, n := range []int{1, 2, 5} {
		for i := range n {
			us := random(rnd, n)
			for v := range api.MaxKeys + 1 {
				us[i].Version = v
				parses(t, lays(t, us...), us, api.OK)
			}
			for _, v := range odd[1:] {
				us[i].Version = v
				b := lays(t, us...)
				if at := 8 + wide*i + 32; binary.BigEndian.Uint64(b[at:]) != uint64(v) {
					t.Errorf("the version %d: %x", v, b[at:at+8])
				}
				parses(t, b, nil, api.ErrForm)
				for _, less := range []int{1, 63, 64, 96} {
					parses(t, b[:len(b)-less], nil, api.ErrShort)
				}
				parses(t, append(slices.Clone(b), 0), nil, api.ErrTrail)
				parses(t, append(slices.Clone(b), b...), nil, api.ErrTrail)
			}
		}
	}
}

// P11.3: a number is read in all its eight bytes.
func TestWideVersions(t *testing.T) {
	for bit := range 64 {
		b := laid(api.Update{})
		binary.BigEndian.PutUint64(b[8+32:], 1<<bit)
		want, err := []api.Update(nil), api.ErrForm
		if bit <= 6 {
			want, err = []api.Update{{Version: 1 << bit}}, api.OK
		}
		parses(t, b, want, err)
	}
}

// P11.3: what is more than may be read is laid all the same, and refused, ahead of whether it is there.
func TestTooMany(t *testing.T) {
	b := lays(t, make([]api.Update, api.MaxCount+1)...)
	parses(t, b, nil, api.ErrBig)
	parses(t, b[:len(b)/2], nil, api.ErrBig)
	if !testing.Short() {
		most := make([]api.Update, 1<<20) // as many as a call is given
		b = hist.Bytes(most...)
		if !bytes.Equal(b, laid(most...)) {
			t.Errorf("of %d updates: %d bytes that aren't these", len(most), len(b))
		}
		parses(t, b, nil, api.ErrBig)
	}
	for _, n := range []uint64{api.MaxCount + 1, 1 << 17, 1 << 32, 1<<32 + 1, 1 << 63, math.MaxUint64} {
		b := binary.BigEndian.AppendUint64(nil, n)
		parses(t, b, nil, api.ErrBig)
		parses(t, append(b, laid(api.Update{Version: 99})...), nil, api.ErrBig)
		parses(t, b[:7], nil, api.ErrShort)
	}
	parses(t, binary.BigEndian.AppendUint64(nil, api.MaxCount), nil, api.ErrShort)
}

// P11.3: bytes that end too early, at each place, or are left.
func TestEnds(t *testing.T) {
	rnd := rand.New(rand.NewSource(119))
	for _, n := range []int{0, 1, 3} {
		us := random(rnd, n)
		b := lays(t, us...)
		for i := range b {
			parses(t, b[:i], nil, api.ErrShort)
		}
		parses(t, b, us, api.OK)
		for _, more := range []int{1, 8, wide - 1, wide, wide + 1, 1000} {
			parses(t, append(slices.Clone(b), make([]byte, more)...), nil, api.ErrTrail)
		}
	}
	parses(t, nil, nil, api.ErrShort)
	parses(t, []byte{}, nil, api.ErrShort)
}

// P11.3: a count that says one less or more than there are.
func TestOtherCounts(t *testing.T) {
	us := random(rand.New(rand.NewSource(120)), 4)
	for n := range uint64(9) {
		b := lays(t, us...)
		binary.BigEndian.PutUint64(b, n)
		switch {
		case n < 4:
			parses(t, b, nil, api.ErrTrail)
		case n > 4:
			parses(t, b, nil, api.ErrShort)
		default:
			parses(t, b, us, api.OK)
		}
	}
}

// P11.3: another batch has another digest, which is none of a history's.
func TestUnlikeDigests(t *testing.T) {
	rnd := rand.New(rand.NewSource(121))
	us := random(rnd, 3)
	d := hist.Digest(us...)
	unlike := func(what string, other ...api.Update) {
		lays(t, other...)
		if hist.Digest(other...) == d {
			t.Errorf("%s counts for nothing", what)
		}
	}
	for i := range us {
		for bit := range 512 {
			other := slices.Clone(us)
			other[i].Sig[bit/8] ^= 1 << (bit % 8)
			unlike("a signature", other...)
			other = slices.Clone(us)
			other[i].Id[bit/8%32] ^= 1 << (bit % 8)
			unlike("an identity", other...)
			other = slices.Clone(us)
			other[i].Key[bit/8%32] ^= 1 << (bit % 8)
			unlike("a key", other...)
			other = slices.Clone(us)
			other[i].Version ^= 1 << (bit % 64)
			unlike("a version", other...)
		}
	}
	unlike("the order", us[1], us[0], us[2])
	unlike("the last one", us[:2]...)
	unlike("the first one", us[1:]...)
	unlike("one that is there twice", append(us, us[2])...)
	unlike("one of noughts", append(us, api.Update{})...)
	if hist.Digest() == hist.Value() || hist.Digest() == sha256.Sum256(nil) {
		t.Error("no updates and no keys are one")
	}
}

// What is handed in stays as it is, spare room too; answers don't hang on it later.
func TestBatchHandedIn(t *testing.T) {
	rnd := rand.New(rand.NewSource(122))
	whole := random(rnd, 20)
	before := slices.Clone(whole)
	b := hist.Bytes(whole[:4]...)
	want := slices.Clone(b)
	d := hist.Digest(whole[:4]...)
	room := append(slices.Clone(b), bytes.Repeat([]byte{0xee}, 99)...)
	roomBefore := slices.Clone(room)
	us, err := hist.Parse(room[:len(b)])
	if err != api.OK || !slices.Equal(whole, before) || !bytes.Equal(room, roomBefore) {
		t.Fatalf("%v, or what was handed in changed", err)
	}
	clear(whole)
	clear(room)
	if !bytes.Equal(b, want) || !slices.Equal(us, before[:4]) {
		t.Error("an answer changed with what was handed in")
	}
	clear(us[:cap(us)])
	parses(t, want, before[:4], api.OK)
	clear(b[:cap(b)])
	if !bytes.Equal(hist.Bytes(before[:4]...), want) || hist.Digest(before[:4]...) != d {
		t.Error("two answers share memory")
	}
}

// FuzzParse holds what is read against the chapter's words: bytes have one form alone.
func FuzzParse(f *testing.F) {
	rnd := rand.New(rand.NewSource(123))
	for n := range 4 {
		f.Add(laid(random(rnd, n)...))
	}
	f.Add([]byte{})
	f.Add(laid(api.Update{Version: 65}))
	f.Add(laid(made(api.Hash{1}, 1, api.Hash{7})))
	f.Add(binary.BigEndian.AppendUint64(nil, api.MaxCount))
	f.Add(binary.BigEndian.AppendUint64(nil, api.MaxCount+1))
	f.Fuzz(func(t *testing.T, b []byte) {
		before := slices.Clone(b)
		us, err := hist.Parse(b)
		if !bytes.Equal(b, before) {
			t.Fatal("the bytes changed")
		}
		if err != told(b) {
			t.Fatalf("%v, not %v", err, told(b))
		}
		if err != api.OK {
			if len(us) != 0 {
				t.Errorf("beside %v: %d updates", err, len(us))
			}
			return
		}
		if !bytes.Equal(lays(t, us...), b) {
			t.Errorf("%d updates of %x", len(us), b)
		}
		for _, u := range us {
			got, err := hist.Next(make([]api.Hash, max(u.Version-1, 0)), u)
			switch {
			case !hist.Signed(u) && err == api.ErrOwner && len(got) == 0:
			case hist.Signed(u) && err == api.OK && len(got) == u.Version && got[len(got)-1] == u.Key:
			default:
				t.Errorf("the version %d: %v, %d keys", u.Version, err, len(got))
			}
		}
	})
}
