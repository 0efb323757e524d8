package msg_test

import (
	"bytes"
	"fmt"
	"math/rand"
	"reflect"
	"slices"
	"testing"

	"witan/api"
	"witan/msg"
)

// span is the memory of a list, its spare room too.
type span struct{ from, to uintptr }

// spans are those of all lists in a value.
func spans(v reflect.Value) []span {
	var all []span
	switch v.Kind() {
	case reflect.Struct:
		for i := range v.NumField() {
			all = append(all, spans(v.Field(i))...)
		}
	case reflect.Slice:
		if size := uintptr(v.Cap()) * v.Type().Elem().Size(); size > 0 {
			all = append(all, span{v.Pointer(), v.Pointer() + size})
		}
		for i := range v.Len() {
			all = append(all, spans(v.Index(i))...)
		}
	}
	return all
}

// apart tells whether no two lists share memory, of all these values.
func apart(vs ...any) bool {
	var all []span
	for _, v := range vs {
		all = append(all, spans(reflect.ValueOf(v))...)
	}
	slices.SortFunc(all, func(a, b span) int { return int(int64(a.from) - int64(b.from)) })
	for i := 1; i < len(all); i++ {
		if all[i].from < all[i-1].to {
			return false
		}
	}
	return true
}

// whole tells all of a value, the spare room of its lists too.
func whole(v reflect.Value) string {
	switch v.Kind() {
	case reflect.Struct:
		s := "{"
		for i := range v.NumField() {
			s += whole(v.Field(i)) + " "
		}
		return s + "}"
	case reflect.Slice:
		s := fmt.Sprint("[", v.Len(), ": ")
		for i := range v.Cap() {
			s += whole(v.Slice(0, v.Cap()).Index(i)) + " "
		}
		return s + "]"
	}
	return fmt.Sprint(v.Interface())
}

// roomy gives all lists of a message spare room, with marks in it.
func roomy(m api.Msg) api.Msg {
	u, c := api.Update{Version: 77}, api.Cert{Body: []byte{7}, Signers: []int{7}}
	m.Batch = room(m.Batch, u)
	m.Cert = roomyCert(m.Cert)
	m.Chunk = room(m.Chunk, 0xcc)
	m.Proofs = room(m.Proofs, api.Proof{View: 77, Batch: []api.Update{u}, Cert: c})
	for i, p := range m.Proofs {
		m.Proofs[i].Batch, m.Proofs[i].Cert = room(p.Batch, u), roomyCert(p.Cert)
	}
	m.Changes = room(m.Changes, api.Msg{Kind: 77, Cert: c})
	for i, x := range m.Changes {
		m.Changes[i] = roomy(x)
	}
	return m
}

func roomyCert(c api.Cert) api.Cert {
	return api.Cert{Body: room(c.Body, 0xcc), Signers: room(c.Signers, 77), Sigs: room(c.Sigs, full(0xcc))}
}

// room answers a list with two marks in its spare room.
func room[T any](x []T, mark T) []T {
	return append(slices.Clone(x), mark, mark)[:len(x)]
}

// spoil writes over all lists of a message, and their spare room.
func spoil(v reflect.Value) {
	switch v.Kind() {
	case reflect.Struct:
		for i := range v.NumField() {
			spoil(v.Field(i))
		}
	case reflect.Slice:
		for i := range v.Len() {
			spoil(v.Index(i))
		}
		v.Slice(0, v.Cap()).Clear()
	}
}

// crowded answers a message of a kind, with all fields, and whose lists are the same ones where that can be.
func crowded(rnd *rand.Rand, kind api.Tag) api.Msg {
	m := random(rnd, kind)
	m.Batch = updates(rnd, 3)
	m.Proofs = many(rnd, 4)
	for i := range m.Proofs {
		m.Proofs[i].Batch, m.Proofs[i].Cert = m.Batch, m.Cert
	}
	c := only(api.Msg{Kind: api.TagChange, Cert: m.Cert, Proofs: m.Proofs})
	m.Changes = []api.Msg{c, c, random(rnd, kind), c}
	m.Changes[2].Chunk = m.Chunk
	return m
}

// meet tells whether a list of one value has memory of a list of another one.
func meet(a, b any) bool {
	for _, x := range spans(reflect.ValueOf(a)) {
		for _, y := range spans(reflect.ValueOf(b)) {
			if x.from < y.to && y.from < x.to {
				return true
			}
		}
	}
	return false
}

// What is handed in is neither changed nor kept, spare room too, and an answer shares no memory with it, nor within itself.
func TestHandedIn(t *testing.T) {
	rnd := rand.New(rand.NewSource(181))
	r := ringOf(t, 4)
	for _, k := range append(others()[:3], kinds...) {
		for _, m := range []api.Msg{roomy(random(rnd, k)), crowded(rnd, k), roomy(crowded(rnd, k)), roomy(api.Msg{Kind: k})} {
			m.From = 1
			before := whole(reflect.ValueOf(m))
			b, body, x := msg.Bytes(m), msg.Body(m), msg.Seal(seedOf(1), m)
			opens(t, r, m, false)
			wantB, wantBody, wantX := laid(m), bodyOf(m), plain(m)
			wantX.Sig = x.Sig
			if whole(reflect.ValueOf(m)) != before {
				t.Errorf("kind %d: what was handed in has changed", k)
			}
			if !apart(b, body, x) || meet(m, b) || meet(m, body) || meet(m, x) {
				t.Errorf("kind %d: lists share memory", k)
			}
			spoil(reflect.ValueOf(m))
			if !bytes.Equal(b, wantB) || !bytes.Equal(body, wantBody) || !same(x, wantX) {
				t.Errorf("kind %d: an answer changed with what was handed in", k)
			}
			opens(t, r, x, isSigned(k))
			opens(t, r, wantX, isSigned(k))
		}
	}
}

// What is read shares no memory with the bytes, nor within itself, nor with what was read of them again.
func TestReadApart(t *testing.T) {
	rnd := rand.New(rand.NewSource(182))
	for _, k := range kinds {
		for range 10 {
			want := only(random(rnd, k))
			b := room(laid(want), 0xcc)
			x, err := msg.Parse(b)
			y, again := msg.Parse(b)
			if err != api.OK || again != api.OK || !apart(b, x, y) {
				t.Fatalf("kind %d: %v, %v, or lists share memory", k, err, again)
			}
			if b := b[:len(b)+2]; b[len(b)-1] != 0xcc || b[len(b)-2] != 0xcc {
				t.Errorf("kind %d: the spare room has changed", k)
			}
			clear(b[:cap(b)])
			spoil(reflect.ValueOf(x))
			if !same(y, want) {
				t.Errorf("kind %d: what was read has changed", k)
			}
		}
	}
}
