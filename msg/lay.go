package msg

import (
	"witan/api"
	"witan/cert"
	"witan/hist"
	"witan/wire"
)

// All of these go on behind b, in its memory. Were what is within laid by itself, and then joined, bytes would be copied as often as messages are nested in one another.

// layMsg lays a message's bytes.
func layMsg(b []byte, m *api.Msg) []byte {
	b = append(b, byte(m.Kind))
	b = layNumber(b, m.From)
	for _, f := range fields(m.Kind) {
		b = layField(b, m, f)
	}
	if signed(m.Kind) {
		b = append(b, m.Sig[:]...)
	}
	return b
}

// layField lays a field as it stands in a message's bytes.
func layField(b []byte, m *api.Msg, f field) []byte {
	switch f {
	case view:
		return layNumber(b, m.View)
	case seq:
		return layNumber(b, m.Seq)
	case hash:
		return append(b, m.Hash[:]...)
	case batch:
		return layBytes(b, hist.Bytes(m.Batch...))
	case certificate:
		return layBytes(b, cert.Bytes(m.Cert))
	case proofs:
		return layProofs(b, m.Proofs)
	case changes:
		return layChanges(b, m.Changes)
	default: // the chunk
		return layBytes(b, m.Chunk)
	}
}

// laySigned lays a field as it stands in a message's body.
func laySigned(b []byte, m *api.Msg, f field) []byte {
	switch f {
	case batch:
		d := hist.Digest(m.Batch...)
		return append(b, d[:]...)
	case certificate:
		return append(b, cert.Bytes(m.Cert)...)
	default: // it is signed as it is sent
		return layField(b, m, f)
	}
}

// layProofs lays how many there are, and each.
func layProofs(b []byte, ps []api.Proof) []byte {
	b = layNumber(b, len(ps))
	for i := range ps {
		p := &ps[i]
		b = layNumber(b, p.View)
		b = layNumber(b, p.Seq)
		b = layBytes(b, hist.Bytes(p.Batch...))
		b = layBytes(b, cert.Bytes(p.Cert))
	}
	return b
}

// layChanges lays how many there are, and each one's bytes.
func layChanges(b []byte, ms []api.Msg) []byte {
	b = layNumber(b, len(ms))
	for i := range ms {
		at := len(b)
		b = layNumber(b, 0) // how many bytes it has is known behind it
		from := len(b)
		b = layMsg(b, &ms[i])
		copy(b[at:from], wire.Number(nil, uint64(len(b)-from)))
	}
	return b
}

// layNumber lays a number.
func layNumber(b []byte, v int) []byte {
	return append(b, wire.Number(nil, uint64(v))...)
}

// layBytes lays bytes in layer 1's form.
func layBytes(b, x []byte) []byte {
	return append(b, wire.Bytes(nil, x)...)
}
