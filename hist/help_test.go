package hist_test

import (
	"crypto/ed25519"
	"crypto/sha256"
	"encoding/binary"
	"encoding/hex"
	"math/rand"
	"slices"
	"testing"

	"witan/api"
	"witan/hist"
)

// noise answers n bytes of anything.
func noise(rnd *rand.Rand, n int) []byte {
	b := make([]byte, n)
	rnd.Read(b)
	return b
}

// hashes answers n hashes of anything.
func hashes(rnd *rand.Rand, n int) []api.Hash {
	all := make([]api.Hash, n)
	for i := range all {
		rnd.Read(all[i][:])
	}
	return all
}

// random answers n updates of anything, whose versions may be read.
func random(rnd *rand.Rand, n int) []api.Update {
	all := make([]api.Update, n)
	for i := range all {
		u := &all[i]
		rnd.Read(u.Id[:])
		rnd.Read(u.Key[:])
		rnd.Read(u.Sig[:])
		u.Version = rnd.Intn(api.MaxKeys + 1)
	}
	return all
}

// bodyOf answers an update's body, as the chapter's words have it, made without the program.
func bodyOf(version int, key api.Hash) []byte {
	return append(binary.BigEndian.AppendUint64(nil, uint64(version)), key[:]...)
}

// said answers what is signed of a body under a tag, as layer 7's words have it, made without the program.
func said(tag api.Tag, body []byte) []byte {
	b := append([]byte("witan"), byte(tag))
	return append(binary.BigEndian.AppendUint64(b, uint64(len(body))), body...)
}

// owner answers the seed's public key and its signature of these bytes, by Go's own Ed25519.
func owner(seed api.Hash, m []byte) (api.Hash, api.Sig) {
	k := ed25519.NewKeyFromSeed(seed[:])
	return api.Hash(k.Public().(ed25519.PublicKey)), api.Sig(ed25519.Sign(k, m))
}

// made answers the update that Make is to answer, made without the program.
func made(seed api.Hash, version int, key api.Hash) api.Update {
	id, sig := owner(seed, said(api.TagUpdate, bodyOf(version, key)))
	return api.Update{Id: id, Version: version, Key: key, Sig: sig}
}

// valueOf answers a history's value, as the chapter's words have it, made without the program.
func valueOf(keys []api.Hash) api.Hash {
	var d api.Hash
	for _, k := range keys {
		d = sha256.Sum256(slices.Concat([]byte{3}, d[:], k[:]))
	}
	return sha256.Sum256(append(binary.BigEndian.AppendUint64([]byte{2}, uint64(len(keys))), d[:]...))
}

// laid answers a batch's bytes, as the chapter's words have them, made without the program.
func laid(us ...api.Update) []byte {
	b := binary.BigEndian.AppendUint64(nil, uint64(len(us)))
	for _, u := range us {
		b = append(b, u.Id[:]...)
		b = binary.BigEndian.AppendUint64(b, uint64(u.Version))
		b = append(b, u.Key[:]...)
		b = append(b, u.Sig[:]...)
	}
	return b
}

// wide is how many bytes an update has in a batch's.
const wide = 32 + 8 + 32 + 64

// told answers what Parse is to answer, by the number of bytes and the versions alone.
func told(b []byte) api.Errno {
	if len(b) < 8 {
		return api.ErrShort
	}
	n, rest := binary.BigEndian.Uint64(b), b[8:]
	switch {
	case n > api.MaxCount:
		return api.ErrBig
	case len(rest) < wide*int(n):
		return api.ErrShort
	case len(rest) > wide*int(n):
		return api.ErrTrail
	}
	for ; len(rest) > 0; rest = rest[wide:] {
		if binary.BigEndian.Uint64(rest[32:]) > api.MaxKeys {
			return api.ErrForm
		}
	}
	return api.OK
}

// parses reads bytes, which is to answer want, and no updates beside an error.
func parses(t *testing.T, b []byte, want []api.Update, err api.Errno) {
	t.Helper()
	if told(b) != err {
		t.Fatalf("the test is wrong: %d bytes are %v", len(b), told(b))
	}
	got, e := hist.Parse(b)
	if e != err || !slices.Equal(got, want) {
		t.Errorf("of %d bytes: %v and %d updates, not %v and %d", len(b), e, len(got), err, len(want))
	}
}

// nexts asks for the next keys, which are to be the keys and u's behind them; none beside an error.
func nexts(t *testing.T, keys []api.Hash, u api.Update, err api.Errno) {
	t.Helper()
	var want []api.Hash
	if err == api.OK {
		want = append(slices.Clone(keys), u.Key)
	}
	got, e := hist.Next(keys, u)
	if e != err || !slices.Equal(got, want) {
		t.Errorf("%d keys, the version %d: %v and %d keys, not %v and %d", len(keys), u.Version, e, len(got), err, len(want))
	}
}

// signed asks whether u is.
func signed(t *testing.T, u api.Update, want bool) {
	t.Helper()
	if hist.Signed(u) != want {
		t.Errorf("the version %d of %x: signed %v", u.Version, u.Id[:4], !want)
	}
}

// unhex answers the hash that is written out.
func unhex(t *testing.T, s string) api.Hash {
	t.Helper()
	b, err := hex.DecodeString(s)
	if err != nil || len(b) != 32 {
		t.Fatalf("no hash: %s", s)
	}
	return api.Hash(b)
}
