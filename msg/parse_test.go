package msg_test

import (
	"bytes"
	"math"
	"math/rand"
	"slices"
	"testing"

	"witan/api"
	"witan/msg"
)

// P16.2: no bytes at all, and kinds that there aren't, whatever stands behind them.
func TestNoKind(t *testing.T) {
	refuses(t, nil, api.ErrShort)
	refuses(t, []byte{}, api.ErrShort)
	rnd := rand.New(rand.NewSource(191))
	for _, k := range others() {
		for _, n := range []int{0, 1, 8, 72, 121, 300} {
			refuses(t, append([]byte{byte(k)}, noise(rnd, n)...), api.ErrKind)
		}
		refuses(t, append([]byte{byte(k)}, number(0)...), api.ErrKind)
	}
}

// P16.2: bytes that end too early, at each place, or are left.
func TestEnds(t *testing.T) {
	rnd := rand.New(rand.NewSource(192))
	for _, k := range kinds {
		for _, m := range []api.Msg{only(one(rnd, k)), {Kind: k}} {
			b := laid(m)
			for n := 1; n < len(b); n++ {
				refuses(t, b[:n], api.ErrShort)
			}
			parses(t, b, m, api.OK)
			for _, more := range []int{1, 8, 64, 1000} {
				refuses(t, append(slices.Clone(b), make([]byte, more)...), api.ErrTrail)
			}
		}
	}
}

// begun answers a message's first bytes: its kind, From, and these.
func begun(kind api.Tag, from int, parts ...[]byte) []byte {
	return slices.Concat([]byte{byte(kind)}, number(from), slices.Concat(parts...))
}

// sig is a signature's bytes.
var sig = make([]byte, 64)

// shortest are the bytes of each kind's shortest message up to, and without, its list of bytes or its count; and what is to stand behind the list.
var shortest = map[api.Tag][2][]byte{
	2: {make([]byte, 16), sig}, 6: {make([]byte, 8), append(number(0), sig...)}, 7: {make([]byte, 8), sig}, 8: {nil, nil}, 9: {nil, nil}, 11: {nil, nil},
}

// P16.2: bytes and counts that are too many, which is asked ahead of whether they are there.
func TestTooBig(t *testing.T) {
	for k, x := range shortest {
		limit := api.MaxBytes
		if k == api.TagView {
			limit = api.MaxCount
		}
		for _, n := range []int{limit + 1, limit * 2, 1 << 32, 1<<32 + 1, math.MaxInt, math.MinInt, -1} {
			b := begun(k, 0, x[0], number(n))
			refuses(t, b, api.ErrBig)
			refuses(t, append(b, make([]byte, 999)...), api.ErrBig)
		}
		refuses(t, begun(k, 0, x[0], number(limit)), api.ErrShort)
		refuses(t, begun(k, 0, x[0], number(limit), make([]byte, 999)), api.ErrShort)
	}
	change := begun(api.TagChange, 0, number(1), inForm(certOf(api.Cert{})))
	for _, n := range []int{api.MaxCount + 1, 1 << 32, 1<<32 + 1, math.MinInt, -1} {
		refuses(t, slices.Concat(change, number(n)), api.ErrBig)
		refuses(t, slices.Concat(change, number(n), make([]byte, 999)), api.ErrBig)
	}
	refuses(t, slices.Concat(change, number(api.MaxCount)), api.ErrShort)
	proof := slices.Concat(change, number(2), make([]byte, 16))
	refuses(t, slices.Concat(proof, number(api.MaxBytes+1)), api.ErrBig)
	refuses(t, slices.Concat(proof, number(api.MaxBytes)), api.ErrShort)
	proof = slices.Concat(proof, inForm(batchOf(nil)))
	refuses(t, slices.Concat(proof, number(api.MaxBytes+1)), api.ErrBig)
	refuses(t, slices.Concat(proof, number(-1), make([]byte, 999)), api.ErrBig)
	view := begun(api.TagView, 0, number(1), number(2), inForm(laid(api.Msg{Kind: api.TagChange})))
	refuses(t, slices.Concat(view, number(api.MaxBytes+1)), api.ErrBig)
	refuses(t, slices.Concat(view, number(-1), make([]byte, 999)), api.ErrBig)
	refuses(t, slices.Concat(view, number(api.MaxBytes), make([]byte, 999)), api.ErrShort)
}

// P16.2: as many bytes as there may be, and one more.
func TestGreatest(t *testing.T) {
	x := noise(rand.New(rand.NewSource(193)), api.MaxBytes+1)
	m := api.Msg{Kind: api.TagHave, From: 6, Chunk: x[:api.MaxBytes]}
	parses(t, laid(m), m, api.OK)
	m.Chunk = x
	refuses(t, laid(m), api.ErrBig)
	m = api.Msg{Kind: api.TagLatest, Cert: api.Cert{Body: x[:api.MaxBytes-16]}}
	parses(t, laid(m), m, api.OK)
	m.Cert.Body = x[:api.MaxBytes-15]
	refuses(t, laid(m), api.ErrBig)
	change := api.Msg{Kind: api.TagChange, Cert: api.Cert{Body: x[:api.MaxBytes-16]}}
	parses(t, laid(change), change, api.OK)
	change.Cert.Body = x[:api.MaxBytes-(1+8+8+8+16+8+64)]
	m = api.Msg{Kind: api.TagView, Changes: []api.Msg{change, change}}
	parses(t, laid(m), m, api.OK)
	m.Changes[1].Cert.Body = x[:len(change.Cert.Body)+1]
	refuses(t, laid(m), api.ErrBig)
}

// P16.2: From, View and Seq at their bounds and above, of each kind and of proofs and changes within.
func TestBounds(t *testing.T) {
	rnd := rand.New(rand.NewSource(194))
	for _, k := range kinds {
		fields := map[string]int{"From": 6}
		if slices.Contains([]rune(shapes[k]), 'v') {
			fields["View"] = most
		}
		if slices.Contains([]rune(shapes[k]), 's') {
			fields["Seq"] = most
		}
		for name, limit := range fields {
			for _, v := range []int{0, 1, limit - 1, limit, limit + 1, limit + 2, 1 << 32, 1<<32 + 1, math.MaxInt, math.MinInt, -1} {
				m := only(one(rnd, k))
				set(&m, name, v)
				bounded(t, m, 0 <= v && v <= limit)
				if k != api.TagChange {
					continue
				}
				bounded(t, api.Msg{Kind: api.TagView, Changes: []api.Msg{{Kind: k}, m, m}}, 0 <= v && v <= limit)
			}
		}
	}
	for i := range 4 {
		for _, v := range []int{0, most, most + 1, 1 << 32, 1 << 33, math.MinInt, -1} {
			a, b := many(rnd, 4), many(rnd, 4)
			a[i].View, b[i].Seq = v, v
			bounded(t, api.Msg{Kind: api.TagChange, Proofs: a}, 0 <= v && v <= most)
			bounded(t, api.Msg{Kind: api.TagChange, Proofs: b}, 0 <= v && v <= most)
		}
	}
}

func set(m *api.Msg, name string, v int) {
	switch name {
	case "From":
		m.From = v
	case "View":
		m.View = v
	default:
		m.Seq = v
	}
}

// bounded reads the bytes of m, which is to be within the bounds, or not; and layer 1's error stands ahead of that.
func bounded(t *testing.T, m api.Msg, in bool) {
	t.Helper()
	b := laid(m)
	if in {
		parses(t, b, m, api.OK)
	} else {
		refuses(t, b, api.ErrForm)
	}
	refuses(t, b[:len(b)-1], api.ErrShort)
	refuses(t, append(slices.Clone(b), 0), api.ErrTrail)
}

// P16.2: as many updates, proofs and changes as there may be, and more.
func TestTooMany(t *testing.T) {
	rnd := rand.New(rand.NewSource(195))
	for n := range 12 {
		us, ps := updates(rnd, n), many(rnd, n)
		var cs []api.Msg
		for range n {
			cs = append(cs, only(one(rnd, api.TagChange)))
		}
		bounded(t, api.Msg{Kind: api.TagPropose, Batch: us}, n <= 4)
		bounded(t, api.Msg{Kind: api.TagRequest, Batch: us}, n <= 4)
		bounded(t, api.Msg{Kind: api.TagChange, Proofs: ps}, n <= 4)
		bounded(t, api.Msg{Kind: api.TagView, Changes: cs}, n <= 7)
		bounded(t, api.Msg{Kind: api.TagView, Changes: []api.Msg{{Kind: api.TagChange, Proofs: ps}}}, n <= 4)
		ps = many(rnd, 3)
		ps[1].Batch = us
		bounded(t, api.Msg{Kind: api.TagChange, Proofs: ps}, n <= 4)
	}
	bounded(t, api.Msg{Kind: api.TagView, Changes: slices.Repeat([]api.Msg{{Kind: api.TagChange}}, 1000)}, false)
	bounded(t, api.Msg{Kind: api.TagChange, Proofs: make([]api.Proof, 1000)}, false)
	bounded(t, api.Msg{Kind: api.TagRequest, Batch: make([]api.Update, 1000)}, false)
}

// wrongs are bytes that are no batch's, and no certificate's, by the error.
var wrongBatch = map[api.Errno][]byte{
	api.ErrShort: make([]byte, 7),
	api.ErrTrail: make([]byte, 9),
	api.ErrBig:   number(api.MaxCount + 1),
	api.ErrForm:  batchOf([]api.Update{{Version: api.MaxKeys + 1}}),
}

var wrongCert = map[api.Errno][]byte{
	api.ErrShort: make([]byte, 15),
	api.ErrTrail: make([]byte, 17),
	api.ErrBig:   number(api.MaxBytes + 1),
	api.ErrForm:  certOf(api.Cert{Signers: []int{api.MaxCount + 1}}),
}

// proofOf answers a proof's bytes, of these.
func proofOf(batch, cert []byte) []byte {
	return slices.Concat(number(1), number(2), inForm(batch), inForm(cert))
}

// laidOut answers the bytes of a message with a batch, a certificate or a change that are these bytes.
var laidOut = map[string]func(x []byte) []byte{
	"TagPropose's batch":        func(x []byte) []byte { return begun(2, 0, number(1), number(2), inForm(x), sig) },
	"TagRequest's batch":        func(x []byte) []byte { return begun(8, 0, inForm(x)) },
	"a proof's batch":           func(x []byte) []byte { return changeOf(0, 0, none, proofOf(nothing, none), proofOf(x, none)) },
	"TagLatest's certificate":   func(x []byte) []byte { return begun(9, 0, inForm(x)) },
	"TagChange's certificate":   func(x []byte) []byte { return changeOf(0, 0, x) },
	"a proof's certificate":     func(x []byte) []byte { return changeOf(0, 0, none, proofOf(nothing, none), proofOf(nothing, x)) },
	"the first proof's":         func(x []byte) []byte { return changeOf(0, 0, none, proofOf(nothing, x), proofOf(nothing, none)) },
	"a change":                  func(x []byte) []byte { return viewOf(0, 0, x) },
	"the last of three changes": func(x []byte) []byte { return viewOf(0, 0, least, least, x) },
	"the first of seven":        func(x []byte) []byte { return viewOf(0, 0, x, least, least, least, least, least, least) },
}

// The bytes of no updates, of the zero certificate, and of the least change.
var (
	nothing = batchOf(nil)
	none    = certOf(api.Cert{})
	least   = laid(api.Msg{Kind: api.TagChange})
)

// changeOf answers a change's bytes, of these.
func changeOf(from, view int, cert []byte, proofs ...[]byte) []byte {
	return begun(6, from, number(view), inForm(cert), number(len(proofs)), slices.Concat(proofs...), sig)
}

// viewOf answers the bytes of a view's beginning, of these.
func viewOf(from, view int, changes ...[]byte) []byte {
	b := begun(7, from, number(view), number(len(changes)))
	for _, c := range changes {
		b = append(b, inForm(c)...)
	}
	return append(b, sig...)
}

// within reads a message with x within, at each place where that is asked for; and again in a change of a view, with the error that is to be told.
func within(t *testing.T, places []string, x []byte, err api.Errno) {
	t.Helper()
	for _, name := range places {
		b := laidOut[name](x)
		refuses(t, b, err)
		refuses(t, b[:len(b)-1], api.ErrShort)
		refuses(t, append(slices.Clone(b), 0), api.ErrTrail)
		if api.Tag(b[0]) == api.TagChange {
			refuses(t, viewOf(0, 1, least, b, least), err)
		}
	}
}

// P16.2: a batch or a certificate within that is none: its error, as layers 8 and 11 tell it.
func TestWithin(t *testing.T) {
	batches := []string{"TagPropose's batch", "TagRequest's batch", "a proof's batch"}
	certs := []string{"TagLatest's certificate", "TagChange's certificate", "a proof's certificate", "the first proof's"}
	for err, x := range wrongBatch {
		within(t, batches, x, err)
	}
	for err, x := range wrongCert {
		within(t, certs, x, err)
	}
	within(t, batches, nil, api.ErrShort)
	within(t, certs, nil, api.ErrShort)
	// Too many updates, one of them of a version that is too great, or not whole: the batch's error.
	many := batchOf(make([]api.Update, 6))
	within(t, batches, many, api.ErrForm)
	within(t, batches, many[:len(many)-1], api.ErrShort)
	within(t, batches, append(many, 0), api.ErrTrail)
}

// P16.2: a change within that is none: this one's error; of another kind: ErrForm, behind that.
func TestChangeWithin(t *testing.T) {
	places := []string{"a change", "the last of three changes", "the first of seven"}
	within(t, places, nil, api.ErrShort)
	within(t, places, least[:40], api.ErrShort)
	within(t, places, append(slices.Clone(least), 0), api.ErrTrail)
	within(t, places, begun(6, 0, number(1), number(api.MaxBytes+1)), api.ErrBig)
	within(t, places, changeOf(7, 1, none), api.ErrForm)
	within(t, places, changeOf(6, most+1, none), api.ErrForm)
	for err, x := range wrongBatch {
		within(t, places, changeOf(0, 1, none, proofOf(x, none)), err)
	}
	for err, x := range wrongCert {
		within(t, places, changeOf(0, 1, x), err)
	}
	rnd := rand.New(rand.NewSource(196))
	for _, k := range others() {
		within(t, places, laid(api.Msg{Kind: k}), api.ErrKind)
	}
	for _, k := range kinds {
		if k == api.TagChange {
			continue
		}
		b := laid(one(rnd, k))
		within(t, places, b, api.ErrForm)
		within(t, places, b[:len(b)-1], api.ErrShort)
		within(t, places, append(slices.Clone(b), 0), api.ErrTrail)
	}
	within(t, places, laidOut["TagRequest's batch"](wrongBatch[api.ErrTrail]), api.ErrTrail)
	within(t, places, laidOut["TagLatest's certificate"](wrongCert[api.ErrBig]), api.ErrBig)
	within(t, places, viewOf(0, 1), api.ErrForm)
	within(t, places, viewOf(0, 1, least[:9]), api.ErrShort)
	within(t, places, viewOf(0, 1, least, viewOf(0, 1, []byte{12})), api.ErrKind)
}

// P16.2: of several faults in what is within the first one is told, in the order of the bytes.
func TestOrder(t *testing.T) {
	short, trail, big := wrongBatch[api.ErrShort], wrongCert[api.ErrTrail], wrongCert[api.ErrBig]
	for _, x := range []struct {
		b   []byte
		err api.Errno
	}{
		// From, View and Seq ahead of a batch, a certificate and a change.
		{begun(2, 7, number(1), number(2), inForm(short), sig), api.ErrForm},
		{begun(2, 0, number(most+1), number(2), inForm(short), sig), api.ErrForm},
		{begun(2, 0, number(1), number(most+1), inForm(short), sig), api.ErrForm},
		{begun(2, 0, number(1), number(2), inForm(short), sig), api.ErrShort},
		{begun(8, 7, inForm(short)), api.ErrForm},
		{begun(9, -1, inForm(trail)), api.ErrForm},
		{changeOf(7, 0, trail), api.ErrForm},
		{changeOf(0, -1, trail), api.ErrForm},
		{viewOf(7, 0, nil), api.ErrForm},
		{viewOf(0, most+1, nil), api.ErrForm},
		// The certificate ahead of the proofs, and of how many there are.
		{changeOf(0, 0, trail, proofOf(short, big)), api.ErrTrail},
		{changeOf(0, 0, trail, slices.Repeat([][]byte{proofOf(nothing, none)}, 5)...), api.ErrTrail},
		// A proof's View and Seq ahead of its batch, that ahead of its certificate, all of one proof ahead of the next.
		{changeOf(0, 0, none, slices.Concat(number(-1), number(2), inForm(short), inForm(trail))), api.ErrForm},
		{changeOf(0, 0, none, slices.Concat(number(1), number(most+1), inForm(short), inForm(trail))), api.ErrForm},
		{changeOf(0, 0, none, proofOf(short, big)), api.ErrShort},
		{changeOf(0, 0, none, proofOf(nothing, trail), proofOf(short, none)), api.ErrTrail},
		{changeOf(0, 0, none, proofOf(nothing, trail), slices.Concat(number(-1), number(-1), inForm(nothing), inForm(none))), api.ErrTrail},
		{changeOf(0, 0, none, slices.Concat(number(-1), number(-1), inForm(nothing), inForm(none)), proofOf(nothing, trail)), api.ErrForm},
		// How many proofs and changes there are stands ahead of them.
		{changeOf(0, 0, none, slices.Repeat([][]byte{proofOf(short, trail)}, 5)...), api.ErrForm},
		{changeOf(0, 0, none, slices.Repeat([][]byte{proofOf(short, trail)}, 4)...), api.ErrShort},
		{viewOf(0, 0, slices.Repeat([][]byte{nil}, 8)...), api.ErrForm},
		{viewOf(0, 0, slices.Repeat([][]byte{nil}, 7)...), api.ErrShort},
		// One change ahead of the next, and what is within it, and its kind.
		{viewOf(0, 0, least, []byte{12}, nil), api.ErrKind},
		{viewOf(0, 0, least, nil, []byte{12}), api.ErrShort},
		{viewOf(0, 0, laid(api.Msg{Kind: api.TagWant}), nil), api.ErrForm},
		{viewOf(0, 0, nil, laid(api.Msg{Kind: api.TagWant})), api.ErrShort},
		{viewOf(0, 0, changeOf(0, 0, trail), []byte{12}), api.ErrTrail},
		{viewOf(0, 0, changeOf(7, 0, trail), []byte{12}), api.ErrForm},
		// Layer 1's error of a change's own bytes ahead of what is within it.
		{viewOf(0, 0, changeOf(7, 0, trail)[:100]), api.ErrShort},
	} {
		refuses(t, x.b, x.err)
		if err := api.ErrTrail; x.err != err { // layer 1's own error ahead of all
			refuses(t, append(slices.Clone(x.b), 0), err)
		}
		refuses(t, x.b[:len(x.b)-1], api.ErrShort)
	}
	// Its own bytes are gone through once: the first fault in them is told, and what would stand behind it isn't looked for.
	own := begun(7, 7, number(-1), number(2), number(api.MaxBytes+1))
	refuses(t, own, api.ErrBig)
	refuses(t, begun(7, 7, number(-1), number(api.MaxCount+1), number(api.MaxBytes+1)), api.ErrBig)
	refuses(t, begun(6, 7, number(-1), number(api.MaxBytes), number(api.MaxCount+1)), api.ErrShort)
	refuses(t, begun(6, 7, number(-1), inForm(nil), number(api.MaxCount+1)), api.ErrBig)
}

// P16.2: views within views are read as deep as bytes may be nested, and the innermost fault is told; each byte is looked at once, however deep it stands.
func TestDeep(t *testing.T) {
	const deep = (api.MaxBytes - 97) / 97
	for _, x := range []struct {
		inner []byte
		err   api.Errno
	}{
		{laid(api.Msg{Kind: api.TagView}), api.ErrForm},
		{[]byte{12}, api.ErrKind},
		{nil, api.ErrShort},
		{append(slices.Clone(least), 0), api.ErrTrail},
		{changeOf(0, 0, wrongCert[api.ErrBig]), api.ErrBig},
	} {
		b := deepView(deep, x.inner)
		nested(t, b, deep, x.inner)
		if len(b) > api.MaxBytes+97 || len(b) < api.MaxBytes-300 {
			t.Fatalf("%d bytes: the test is wrong", len(b))
		}
		refuses(t, b, x.err)
		if took := spent(func() { msg.Parse(b) }); took > 64<<20 {
			t.Errorf("%d bytes of memory to read %d", took, len(b))
		}
	}
	b := deepView(deep+10, nil)
	refuses(t, b, api.ErrBig)
	wide := slices.Repeat([][]byte{deepView(deep, least)}, 7)
	refuses(t, viewOf(0, 0, wide...), api.ErrBig)
	wide = slices.Repeat([][]byte{deepView(deep-1, least)}, 7)
	refuses(t, viewOf(0, 0, wide...), api.ErrForm)
}

// deepView answers the bytes of so many views, each within the one ahead, around the innermost bytes.
func deepView(n int, inner []byte) []byte {
	var head []byte
	size := len(inner) + 97*n
	for range n {
		size -= 97
		head = append(head, begun(7, 2, number(3), number(1), number(size))...)
	}
	s := full(0x99)
	return slices.Concat(head, inner, bytes.Repeat(s[:], n))
}
