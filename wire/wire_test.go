package wire_test

import (
	"bytes"
	"encoding/binary"
	"fmt"
	"math"
	"math/rand/v2"
	"testing"

	"witan/api"
	"witan/wire"
)

// roomy is bytes with spare room behind them that has marks in it.
func roomy(x ...byte) []byte {
	b := bytes.Repeat([]byte{0xee}, len(x)+200)
	copy(b, x)
	return b[:len(x)]
}

// whole is a list of bytes with its spare room.
func whole(b []byte) []byte { return b[:cap(b)] }

// spoil writes over a list of bytes and its spare room.
func spoil(b []byte) {
	w := whole(b)
	for i := range w {
		w[i] ^= 0xff
	}
}

// rising is the bytes 1, 2, 3 ..
func rising(n int) []byte {
	b := make([]byte, n)
	for i := range b {
		b[i] = byte(i + 1)
	}
	return b
}

func number(v uint64) []byte { return binary.BigEndian.AppendUint64(nil, v) }

func same(t *testing.T, got, want []byte) {
	t.Helper()
	if !bytes.Equal(got, want) {
		t.Errorf("got %x, want %x", got, want)
	}
}

func done(t *testing.T, r *wire.Reader, want api.Errno) {
	t.Helper()
	if got := r.Done(); got != want {
		t.Errorf("Done: got %v, want %v", got, want)
	}
}

// nothing asks that a reader answers zero values to all calls, and an error that stays.
func nothing(t *testing.T, r *wire.Reader, want api.Errno) {
	t.Helper()
	for range 2 {
		done(t, r, want)
		if v := r.Number(); v != 0 {
			t.Errorf("Number: %d", v)
		}
		if b := r.Bytes(); len(b) != 0 {
			t.Errorf("Bytes: %x", b)
		}
		if h := r.Hash(); h != (api.Hash{}) {
			t.Errorf("Hash: %x", h)
		}
		if s := r.Sig(); s != (api.Sig{}) {
			t.Errorf("Sig: %x", s)
		}
		if n := r.Count(); n != 0 {
			t.Errorf("Count: %d", n)
		}
		done(t, r, want)
	}
}

// calls are a reader's, by name; each answers its value as bytes.
var calls = map[string]func(*wire.Reader) []byte{
	"Number": func(r *wire.Reader) []byte { return number(r.Number()) },
	"Bytes":  func(r *wire.Reader) []byte { return r.Bytes() },
	"Hash":   func(r *wire.Reader) []byte { h := r.Hash(); return h[:] },
	"Sig":    func(r *wire.Reader) []byte { s := r.Sig(); return s[:] },
	"Count":  func(r *wire.Reader) []byte { return number(uint64(r.Count())) },
}

func TestP11Example(t *testing.T) {
	same(t, wire.Bytes(wire.Number(nil, 5), []byte("ab")),
		[]byte{0, 0, 0, 0, 0, 0, 0, 5, 0, 0, 0, 0, 0, 0, 0, 2, 0x61, 0x62})
}

func TestP11Number(t *testing.T) {
	for _, v := range []uint64{0, 1, 255, 256, 0x0102030405060708, 1 << 31, 1 << 32, 1 << 63, math.MaxUint64} {
		same(t, wire.Number(nil, v), number(v))
		same(t, wire.Number([]byte{}, v), number(v))
		same(t, wire.Number([]byte{9, 8}, v), append([]byte{9, 8}, number(v)...))
	}
}

func TestP11Bytes(t *testing.T) {
	for _, n := range []int{0, 1, 7, 8, 255, 256, 65537, api.MaxBytes, api.MaxBytes + 1} {
		x := rising(n)
		form := append(number(uint64(n)), x...)
		same(t, wire.Bytes(nil, x), form)
		same(t, wire.Bytes([]byte{9, 8}, x), append([]byte{9, 8}, form...))
	}
	same(t, wire.Bytes(nil, nil), number(0))
	same(t, wire.Bytes([]byte{7}, []byte{}), append([]byte{7}, number(0)...))
}

func TestP11Join(t *testing.T) {
	same(t, wire.Join(), nil)
	same(t, wire.Join(nil), nil)
	same(t, wire.Join(nil, []byte{}, nil), nil)
	same(t, wire.Join([]byte{1, 2}), []byte{1, 2})
	same(t, wire.Join([]byte{1}, nil, []byte{2, 3}, []byte{}, []byte{4}), []byte{1, 2, 3, 4})
	b := []byte{5, 6}
	same(t, wire.Join(b, b, b), []byte{5, 6, 5, 6, 5, 6})
	many := make([][]byte, 1<<16)
	for i := range many {
		many[i] = []byte{byte(i), byte(i >> 8)}
	}
	if got := wire.Join(many...); !bytes.Equal(got, bytes.Join(many, nil)) {
		t.Error("many parts")
	}
}

// What is handed in stays as it is, with its spare room, and no answer shares memory with it or with another answer.
func TestP11Memory(t *testing.T) {
	lay := map[string]func(b, x []byte) []byte{
		"Number":    func(b, x []byte) []byte { return wire.Number(b, 1<<40) },
		"Bytes":     func(b, x []byte) []byte { return wire.Bytes(b, x) },
		"Bytes b b": func(b, x []byte) []byte { return wire.Bytes(b, b) },
		"Join 1":    func(b, x []byte) []byte { return wire.Join(b) },
		"Join 2":    func(b, x []byte) []byte { return wire.Join(b, x) },
		"Join last": func(b, x []byte) []byte { return wire.Join(nil, x) },
	}
	for name, f := range lay {
		for _, first := range [][]byte{nil, {}, {1, 2, 3}} {
			b, x := roomy(first...), roomy(4, 5, 6, 7)
			wasB, wasX := bytes.Clone(whole(b)), bytes.Clone(whole(x))
			one, two := f(b, x), f(b, x)
			want := bytes.Clone(one)
			spoil(one)
			if !bytes.Equal(two, want) {
				t.Errorf("%s: two answers share memory, or differ", name)
			}
			if !bytes.Equal(whole(b), wasB) || !bytes.Equal(whole(x), wasX) {
				t.Errorf("%s: what was handed in has changed", name)
			}
			spoil(b)
			spoil(x)
			if !bytes.Equal(two, want) {
				t.Errorf("%s: the answer has changed with what was handed in", name)
			}
		}
	}
	parts := [][]byte{{1}, {2}}
	wire.Join(parts...)
	if len(parts) != 2 || !bytes.Equal(parts[0], []byte{1}) || !bytes.Equal(parts[1], []byte{2}) {
		t.Error("Join has changed the list of its parts")
	}
}

func TestP12Example(t *testing.T) {
	r := wire.New(wire.Bytes(wire.Number(nil, 5), []byte("ab")))
	if v := r.Number(); v != 5 {
		t.Errorf("Number: %d", v)
	}
	same(t, r.Bytes(), []byte("ab"))
	done(t, r, api.OK)
	r = wire.New([]byte{1, 2, 3})
	if v := r.Number(); v != 0 {
		t.Errorf("Number: %d", v)
	}
	done(t, r, api.ErrShort)
}

func TestP12InTurn(t *testing.T) {
	hash, sig := api.Hash(rising(32)), api.Sig(rising(64))
	b := wire.Join(hash[:], number(math.MaxUint64), sig[:], number(65536), number(3), []byte("abc"), number(0), number(0), number(1<<63))
	r := wire.New(b)
	if h := r.Hash(); h != hash {
		t.Errorf("Hash: %x", h)
	}
	if v := r.Number(); v != math.MaxUint64 {
		t.Errorf("Number: %d", v)
	}
	if s := r.Sig(); s != sig {
		t.Errorf("Sig: %x", s)
	}
	if n := r.Count(); n != 65536 {
		t.Errorf("Count: %d", n)
	}
	same(t, r.Bytes(), []byte("abc"))
	same(t, r.Bytes(), nil)
	if n := r.Count(); n != 0 {
		t.Errorf("Count: %d", n)
	}
	if v := r.Number(); v != 1<<63 {
		t.Errorf("Number: %d", v)
	}
	done(t, r, api.OK)
}

// Each call, with each number of bytes that is too small for it.
func TestP12Short(t *testing.T) {
	full := map[string][]byte{
		"Number": number(77),
		"Bytes":  append(number(5), "abcde"...),
		"Hash":   rising(32),
		"Sig":    rising(64),
		"Count":  number(77),
	}
	for name, b := range full {
		for n := range len(b) {
			r := wire.New(b[:n])
			if v := calls[name](r); !bytes.Equal(v, make([]byte, len(v))) {
				t.Errorf("%s of %d bytes: %x", name, n, v)
			}
			nothing(t, r, api.ErrShort)
		}
		r := wire.New(b)
		calls[name](r)
		done(t, r, api.OK)
		calls[name](r) // at the end there is nothing
		nothing(t, r, api.ErrShort)
	}
}

func TestP12Big(t *testing.T) {
	x := rising(api.MaxBytes)
	r := wire.New(wire.Bytes(nil, x))
	same(t, r.Bytes(), x)
	done(t, r, api.OK)
	nothing(t, last(wire.Bytes(nil, rising(api.MaxBytes+1)), "Bytes"), api.ErrBig)
	// Whether they are there is asked later.
	for _, v := range []uint64{api.MaxBytes + 1, 1 << 31, 1 << 32, 1<<32 + 1, 1 << 63, 1<<63 + 1, math.MaxUint64} {
		nothing(t, last(number(v), "Bytes"), api.ErrBig)
		nothing(t, last(append(number(v), 1, 2, 3), "Bytes"), api.ErrBig)
	}
	nothing(t, last(number(api.MaxBytes), "Bytes"), api.ErrShort)
	nothing(t, last(append(number(api.MaxBytes), x[1:]...), "Bytes"), api.ErrShort)
}

func TestP12Count(t *testing.T) {
	for _, n := range []int{0, 1, 65535, 65536} {
		r := wire.New(number(uint64(n)))
		if got := r.Count(); got != n {
			t.Errorf("Count: got %d, want %d", got, n)
		}
		done(t, r, api.OK)
	}
	for _, v := range []uint64{65537, 1 << 20, 1 << 32, 1<<32 + 1, 1 << 63, 1<<63 + 1, math.MaxUint64} {
		nothing(t, last(number(v), "Count"), api.ErrBig)
		nothing(t, last(append(number(v), rising(100)...), "Count"), api.ErrBig)
	}
}

// last is a reader behind one call.
func last(b []byte, call string) *wire.Reader {
	r := wire.New(b)
	calls[call](r)
	return r
}

// What a failed reader has left is never read, though it would be right.
func TestP12FailedStays(t *testing.T) {
	b := wire.Join(number(65537), number(1), []byte{9}, rising(100))
	nothing(t, last(b, "Count"), api.ErrBig)
	b = wire.Join(number(40), number(1), rising(20))
	nothing(t, last(b, "Bytes"), api.ErrShort)
	r := wire.New(rising(31))
	r.Hash()
	r.Number() // there are as many bytes, but it has failed
	nothing(t, r, api.ErrShort)
}

func TestP12Memory(t *testing.T) {
	lay := wire.Bytes(wire.Bytes(wire.Bytes(nil, []byte("abc")), []byte("def")), nil)
	b := roomy(lay...)
	was := bytes.Clone(whole(b))
	r, other := wire.New(b), wire.New(b)
	first := r.Bytes()
	same(t, first, []byte("abc"))
	spoil(first) // with its spare room, in which what stands next might be
	if !bytes.Equal(whole(b), was) {
		t.Error("what was handed in has changed")
	}
	spoil(b)
	second := r.Bytes()
	same(t, second, []byte("def"))
	spoil(second)
	same(t, r.Bytes(), nil)
	done(t, r, api.OK)
	for _, want := range []string{"abc", "def", ""} { // readers of the same bytes share nothing
		same(t, other.Bytes(), []byte(want))
	}
	done(t, other, api.OK)
}

func TestP13Done(t *testing.T) {
	done(t, wire.New(nil), api.OK)
	done(t, wire.New([]byte{}), api.OK)
	done(t, wire.New([]byte{0}), api.ErrTrail)
	done(t, wire.New(roomy()), api.OK)
	// To ask changes nothing.
	r := wire.New(wire.Join(number(5), number(6), []byte{1}))
	done(t, r, api.ErrTrail)
	if v := r.Number(); v != 5 {
		t.Errorf("Number: %d", v)
	}
	done(t, r, api.ErrTrail)
	if n := r.Count(); n != 6 {
		t.Errorf("Count: %d", n)
	}
	done(t, r, api.ErrTrail) // a byte alone is left
	r.Number()               // the error with which it fails stands ahead of that
	nothing(t, r, api.ErrShort)
	r = wire.New(number(5))
	r.Number()
	done(t, r, api.OK)
	done(t, r, api.OK)
}

func TestP13Nil(t *testing.T) {
	nothing(t, nil, api.ErrNil)
}

// model says what a reader answers, in the words of the promises.
type model struct {
	b   []byte
	err api.Errno
}

func (m *model) fails(err api.Errno) []byte {
	m.err = err
	return nil
}

func (m *model) next(n int) []byte {
	if m.err != api.OK {
		return nil
	}
	if len(m.b) < n {
		return m.fails(api.ErrShort)
	}
	x := m.b[:n]
	m.b = m.b[n:]
	return x
}

func (m *model) atMost(limit uint64) []byte {
	x := m.next(8)
	if x != nil && binary.BigEndian.Uint64(x) > limit {
		return m.fails(api.ErrBig)
	}
	return x
}

func (m *model) call(name string) []byte {
	size := map[string]int{"Number": 8, "Hash": 32, "Sig": 64, "Count": 8}[name]
	var x []byte
	switch name {
	case "Count":
		x = m.atMost(api.MaxCount)
	case "Bytes":
		if n := m.atMost(api.MaxBytes); n != nil {
			return m.next(int(binary.BigEndian.Uint64(n)))
		}
	default:
		x = m.next(size)
	}
	if x == nil {
		return make([]byte, size)
	}
	return x
}

func (m *model) done() api.Errno {
	if m.err == api.OK && len(m.b) > 0 {
		return api.ErrTrail
	}
	return m.err
}

// follow holds a reader of b against the model, call by call, each byte of order choosing one.
func follow(t *testing.T, b, order []byte) {
	t.Helper()
	names := []string{"Number", "Bytes", "Hash", "Sig", "Count"}
	r, m := wire.New(b), &model{b: b}
	said := ""
	for _, o := range order {
		name := names[int(o)%len(names)]
		said += " " + name
		got, want := calls[name](r), m.call(name)
		if !bytes.Equal(got, want) || r.Done() != m.done() {
			t.Fatalf("%x:%s: got %x, %v, want %x, %v", b, said, got, r.Done(), want, m.done())
		}
	}
}

func TestP12Model(t *testing.T) {
	rnd := rand.New(rand.NewPCG(1, 2))
	lengths := []uint64{0, 1, 2, 9, 40, 65536, 65537, 1 << 20, 1<<20 + 1, math.MaxUint64}
	for range 20000 {
		var b []byte
		for range rnd.IntN(5) {
			switch rnd.IntN(3) {
			case 0:
				b = append(b, number(lengths[rnd.IntN(len(lengths))])...)
			case 1:
				b = append(b, number(uint64(rnd.IntN(20)))...)
			}
			b = append(b, rising(rnd.IntN(80))...)
		}
		order := make([]byte, rnd.IntN(8))
		for i := range order {
			order[i] = byte(rnd.IntN(5))
		}
		follow(t, b, order)
	}
}

func FuzzReader(f *testing.F) {
	f.Add(wire.Bytes(wire.Number(nil, 5), []byte("ab")), []byte{0, 1})
	f.Add(wire.Number(nil, 1<<20+1), []byte{1, 0})
	f.Add(rising(104), []byte{2, 3, 0})
	f.Fuzz(follow)
}

// What is laid is read again, whatever it is.
func TestP12Back(t *testing.T) {
	rnd := rand.New(rand.NewPCG(3, 4))
	for range 500 {
		v, x := rnd.Uint64(), rising(rnd.IntN(300))
		n := rnd.IntN(api.MaxCount + 1)
		b := wire.Number(wire.Bytes(wire.Number(nil, v), x), uint64(n))
		r := wire.New(b)
		if got := fmt.Sprint(r.Number(), r.Bytes(), r.Count(), r.Done()); got != fmt.Sprint(v, x, n, api.OK) {
			t.Fatalf("%x: %s", b, got)
		}
	}
}
