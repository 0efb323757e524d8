package msg_test

import (
	"crypto/ed25519"
	"crypto/sha256"
	"encoding/binary"
	"math/rand"
	"reflect"
	"slices"
	"testing"

	"witan/api"
	"witan/cert"
	"witan/hist"
	"witan/msg"
	"witan/ring"
)

// shapes are the kinds and their fields, in the order in which they are told: v View, s Seq, h Hash, b Batch, c Cert, p Proofs, m Changes, k Chunk; and g, behind them, where messages of the kind are signed.
var shapes = map[api.Tag]string{
	2: "vsbg", 3: "vshg", 4: "vshg", 5: "shg", 6: "vcpg", 7: "vmg", 8: "b", 9: "c", 10: "h", 11: "k",
}

// kinds are all of them, rising.
var kinds = []api.Tag{2, 3, 4, 5, 6, 7, 8, 9, 10, 11}

// others are numbers of no kind.
func others() []api.Tag {
	all := []api.Tag{0, 1}
	for k := 12; k < 256; k++ {
		all = append(all, api.Tag(k))
	}
	return all
}

// isSigned tells whether messages of a kind are signed.
func isSigned(k api.Tag) bool { return 2 <= k && k <= 7 }

// seedOf answers the seed of replica i, for tests.
func seedOf(i int) api.Hash {
	return api.Hash{0: byte(i), 31: 16}
}

// ringOf answers the ring of the first n replicas, whose keys are made without the program.
func ringOf(t testing.TB, n int) *ring.Ring {
	t.Helper()
	var keys []api.Hash
	for i := range n {
		seed := seedOf(i)
		keys = append(keys, api.Hash(ed25519.NewKeyFromSeed(seed[:]).Public().(ed25519.PublicKey)))
	}
	r, err := ring.New(keys...)
	if err != api.OK || r == nil {
		t.Fatalf("the ring of %d: %v", n, err)
	}
	return r
}

// sealed answers a seed's signature of a body under a tag, as layer 7's words have it, made without the program.
func sealed(seed api.Hash, tag api.Tag, body []byte) api.Sig {
	said := slices.Concat([]byte("witan"), []byte{byte(tag)}, inForm(body))
	return api.Sig(ed25519.Sign(ed25519.NewKeyFromSeed(seed[:]), said))
}

// number answers a number's bytes.
func number[T int | uint64](v T) []byte { return binary.BigEndian.AppendUint64(nil, uint64(v)) }

// inForm answers bytes in layer 1's form of them.
func inForm(x []byte) []byte { return append(number(len(x)), x...) }

// batchOf answers a batch's bytes, as layer 11's words have them.
func batchOf(us []api.Update) []byte {
	b := number(len(us))
	for _, u := range us {
		b = slices.Concat(b, u.Id[:], number(u.Version), u.Key[:], u.Sig[:])
	}
	return b
}

// certOf answers a certificate's bytes, as layer 8's words have them.
func certOf(c api.Cert) []byte {
	b := append(inForm(c.Body), number(len(c.Signers))...)
	for i, s := range c.Signers {
		var sig api.Sig
		if i < len(c.Sigs) {
			sig = c.Sigs[i]
		}
		b = slices.Concat(b, number(s), sig[:])
	}
	return b
}

// proofsOf answers the bytes of proofs, as the chapter's words have them.
func proofsOf(ps []api.Proof) []byte {
	b := number(len(ps))
	for _, p := range ps {
		b = slices.Concat(b, number(p.View), number(p.Seq), inForm(batchOf(p.Batch)), inForm(certOf(p.Cert)))
	}
	return b
}

// changesOf answers the bytes of changes, as the chapter's words have them.
func changesOf(ms []api.Msg) []byte {
	b := number(len(ms))
	for _, m := range ms {
		b = append(b, inForm(laid(m))...)
	}
	return b
}

// laid answers a message's bytes, as the chapter's words have them, made without the program.
func laid(m api.Msg) []byte {
	b := append([]byte{byte(m.Kind)}, number(m.From)...)
	for _, f := range shapes[m.Kind] {
		switch f {
		case 'v':
			b = append(b, number(m.View)...)
		case 's':
			b = append(b, number(m.Seq)...)
		case 'h':
			b = append(b, m.Hash[:]...)
		case 'b':
			b = append(b, inForm(batchOf(m.Batch))...)
		case 'c':
			b = append(b, inForm(certOf(m.Cert))...)
		case 'p':
			b = append(b, proofsOf(m.Proofs)...)
		case 'm':
			b = append(b, changesOf(m.Changes)...)
		case 'k':
			b = append(b, inForm(m.Chunk)...)
		case 'g':
			b = append(b, m.Sig[:]...)
		}
	}
	return b
}

// bodyOf answers a message's body, as the chapter's words have it, made without the program.
func bodyOf(m api.Msg) []byte {
	switch m.Kind {
	case api.TagPropose:
		d := sha256.Sum256(append([]byte{4}, batchOf(m.Batch)...))
		return slices.Concat(number(m.View), number(m.Seq), d[:])
	case api.TagPrepare, api.TagCommit:
		return slices.Concat(number(m.View), number(m.Seq), m.Hash[:])
	case api.TagRoot:
		return slices.Concat(number(m.Seq), m.Hash[:])
	case api.TagChange:
		return slices.Concat(number(m.View), certOf(m.Cert), proofsOf(m.Proofs))
	case api.TagView:
		return slices.Concat(number(m.View), changesOf(m.Changes))
	}
	return nil
}

// only answers the message with the fields alone that its kind has.
func only(m api.Msg) api.Msg {
	kept := api.Msg{Kind: m.Kind, From: m.From}
	for _, f := range shapes[m.Kind] {
		switch f {
		case 'v':
			kept.View = m.View
		case 's':
			kept.Seq = m.Seq
		case 'h':
			kept.Hash = m.Hash
		case 'b':
			kept.Batch = m.Batch
		case 'c':
			kept.Cert = m.Cert
		case 'p':
			kept.Proofs = m.Proofs
		case 'm':
			kept.Changes = m.Changes
		case 'k':
			kept.Chunk = m.Chunk
		case 'g':
			kept.Sig = m.Sig
		}
	}
	return kept
}

// same tells whether two messages are one; nil and empty lists are.
func same(a, b api.Msg) bool {
	return reflect.DeepEqual(plain(a), plain(b))
}

// plain answers a copy of a message in new memory, in which there is no empty list.
func plain(m api.Msg) api.Msg {
	m.Batch, m.Chunk, m.Cert = fresh(m.Batch), fresh(m.Chunk), plainCert(m.Cert)
	m.Proofs, m.Changes = fresh(m.Proofs), fresh(m.Changes)
	for i, p := range m.Proofs {
		m.Proofs[i].Batch, m.Proofs[i].Cert = fresh(p.Batch), plainCert(p.Cert)
	}
	for i, c := range m.Changes {
		m.Changes[i] = plain(c)
	}
	return m
}

func plainCert(c api.Cert) api.Cert {
	return api.Cert{Body: fresh(c.Body), Signers: fresh(c.Signers), Sigs: fresh(c.Sigs)}
}

func fresh[T any](x []T) []T { return append([]T(nil), x...) }

// noise answers n bytes of anything.
func noise(rnd *rand.Rand, n int) []byte {
	b := make([]byte, n)
	rnd.Read(b)
	return b
}

// updates answers n updates of anything, whose versions may be read.
func updates(rnd *rand.Rand, n int) []api.Update {
	all := make([]api.Update, n)
	for i := range all {
		all[i] = api.Update{Id: api.Hash(noise(rnd, 32)), Version: rnd.Intn(api.MaxKeys + 1), Key: api.Hash(noise(rnd, 32)), Sig: api.Sig(noise(rnd, 64))}
	}
	return all
}

// certificate answers one of anything, of n signers whose numbers may be read.
func certificate(rnd *rand.Rand, n int) api.Cert {
	c := api.Cert{Body: noise(rnd, rnd.Intn(60))}
	for range n {
		c.Signers = append(c.Signers, rnd.Intn(api.MaxCount+1))
		c.Sigs = append(c.Sigs, api.Sig(noise(rnd, 64)))
	}
	return c
}

// upTo answers a number from 0 to n, the edges often.
func upTo(rnd *rand.Rand, n int) int {
	switch rnd.Intn(4) {
	case 0:
		return 0
	case 1:
		return n
	}
	return rnd.Intn(n + 1)
}

// many are all proofs that a message may have.
func many(rnd *rand.Rand, n int) []api.Proof {
	var ps []api.Proof
	for range n {
		ps = append(ps, api.Proof{View: upTo(rnd, most), Seq: upTo(rnd, most), Batch: updates(rnd, upTo(rnd, 4)), Cert: certificate(rnd, rnd.Intn(4))})
	}
	return ps
}

// most is the greatest View and Seq.
const most = 1<<31 - 1

// random answers a message of a kind, all of whose fields are set, those too that the kind hasn't; it is within the bounds.
func random(rnd *rand.Rand, kind api.Tag) api.Msg {
	m := one(rnd, kind)
	m.Changes = nil
	for range upTo(rnd, 7) {
		m.Changes = append(m.Changes, only(one(rnd, api.TagChange)))
	}
	return m
}

// one is random's, with a single change of few things.
func one(rnd *rand.Rand, kind api.Tag) api.Msg {
	return api.Msg{
		Kind: kind, From: upTo(rnd, 6), View: upTo(rnd, most), Seq: upTo(rnd, most), Hash: api.Hash(noise(rnd, 32)),
		Batch: updates(rnd, upTo(rnd, 4)), Cert: certificate(rnd, rnd.Intn(5)), Proofs: many(rnd, upTo(rnd, 4)),
		Changes: []api.Msg{{Kind: api.TagChange, From: 3, View: 9, Sig: api.Sig{5}}},
		Chunk:   noise(rnd, rnd.Intn(99)), Sig: api.Sig(noise(rnd, 64)),
	}
}

// eyes go over bytes, and panic with layer 1's error.
type eyes struct{ b []byte }

func (e *eyes) next(n uint64) []byte {
	if uint64(len(e.b)) < n {
		panic(api.ErrShort)
	}
	x := e.b[:n]
	e.b = e.b[n:]
	return x
}

func (e *eyes) number() uint64 { return binary.BigEndian.Uint64(e.next(8)) }

func (e *eyes) limited(limit uint64) uint64 {
	v := e.number()
	if v > limit {
		panic(api.ErrBig)
	}
	return v
}

// token is what stands in a message's own bytes.
type token struct {
	what rune
	v    uint64
	x    []byte
}

// tokens are what stands in a message's own bytes, behind the kind, in order.
func (e *eyes) tokens(shape string) []token {
	ts := []token{{what: 'f', v: e.number()}}
	for _, f := range shape {
		switch f {
		case 'v', 's':
			ts = append(ts, token{what: f, v: e.number()})
		case 'h':
			ts = append(ts, token{what: f, x: e.next(32)})
		case 'g':
			ts = append(ts, token{what: f, x: e.next(64)})
		case 'b', 'c', 'k':
			ts = append(ts, token{what: f, x: e.next(e.limited(1 << 20))})
		case 'p':
			n := e.limited(65536)
			ts = append(ts, token{what: 'P', v: n})
			for range n {
				ts = append(ts, token{what: 'q'}, token{what: 'V', v: e.number()}, token{what: 'S', v: e.number()},
					token{what: 'B', x: e.next(e.limited(1 << 20))}, token{what: 'C', x: e.next(e.limited(1 << 20))})
			}
		case 'm':
			n := e.limited(65536)
			ts = append(ts, token{what: 'M', v: n})
			for range n {
				ts = append(ts, token{what: 'm', x: e.next(e.limited(1 << 20))})
			}
		}
	}
	if len(e.b) > 0 {
		panic(api.ErrTrail)
	}
	return ts
}

// bound is the greatest number that a token may have.
var bound = map[rune]uint64{'f': 6, 'v': most, 's': most, 'V': most, 'S': most, 'P': 4, 'M': 7}

// told answers what Parse is to answer, by the chapter's words.
func told(b []byte) (m api.Msg, err api.Errno) {
	defer func() {
		if e := recover(); e != nil {
			m, err = api.Msg{}, e.(api.Errno)
		}
	}()
	if len(b) == 0 {
		panic(api.ErrShort)
	}
	shape, ok := shapes[api.Tag(b[0])]
	if !ok {
		panic(api.ErrKind)
	}
	m.Kind = api.Tag(b[0])
	e := &eyes{b[1:]}
	for _, t := range e.tokens(shape) {
		if limit, ok := bound[t.what]; ok && t.v > limit {
			panic(api.ErrForm)
		}
		t.set(&m)
	}
	return m, api.OK
}

// must answers what was read, if that went well.
func must[T any](x T, err api.Errno) T {
	if err != api.OK {
		panic(err)
	}
	return x
}

// set gives the message what the token says.
func (t token) set(m *api.Msg) {
	var p *api.Proof
	if len(m.Proofs) > 0 {
		p = &m.Proofs[len(m.Proofs)-1]
	}
	switch t.what {
	case 'f':
		m.From = int(t.v)
	case 'v':
		m.View = int(t.v)
	case 's':
		m.Seq = int(t.v)
	case 'h':
		m.Hash = api.Hash(t.x)
	case 'g':
		m.Sig = api.Sig(t.x)
	case 'k':
		m.Chunk = slices.Clone(t.x)
	case 'b':
		m.Batch = few(t.x)
	case 'c':
		m.Cert = must(cert.Parse(t.x))
	case 'q':
		m.Proofs = append(m.Proofs, api.Proof{})
	case 'V':
		p.View = int(t.v)
	case 'S':
		p.Seq = int(t.v)
	case 'B':
		p.Batch = few(t.x)
	case 'C':
		p.Cert = must(cert.Parse(t.x))
	case 'm':
		c := must(told(t.x))
		if c.Kind != api.TagChange {
			panic(api.ErrForm)
		}
		m.Changes = append(m.Changes, c)
	}
}

// few are a batch's updates, if there aren't too many.
func few(x []byte) []api.Update {
	us := must(hist.Parse(x))
	if len(us) > 4 {
		panic(api.ErrForm)
	}
	return us
}

// parses reads bytes, which is to answer want, and the zero message beside an error.
func parses(t *testing.T, b []byte, want api.Msg, err api.Errno) {
	t.Helper()
	if m, e := told(b); e != err || !same(m, want) {
		t.Fatalf("the test is wrong: %d bytes are %v by the words, not %v", len(b), e, err)
	}
	before := slices.Clone(b)
	m, e := msg.Parse(b)
	if e != err || !same(m, want) {
		t.Errorf("%d bytes, kind %d: %v and the kind %d, not %v", len(b), slices.Concat(b, []byte{0})[0], e, m.Kind, err)
	}
	if !slices.Equal(b, before) {
		t.Error("the bytes changed")
	}
}

// refuses reads bytes, which is to answer that error.
func refuses(t *testing.T, b []byte, err api.Errno) {
	t.Helper()
	parses(t, b, api.Msg{}, err)
}
