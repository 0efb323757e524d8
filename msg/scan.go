package msg

import (
	"witan/api"
	"witan/cert"
	"witan/hist"
	"witan/wire"
)

// How many bytes a number, a hash and a signature have.
const (
	wideNumber = 8
	wideHash   = 32
	wideSig    = 64
)

// scan goes over a message's own bytes once, in layer 1's form and with its errors. Layer 1's reader copies what it goes over and what it answers: so bytes would be copied, and kept, as often as messages are nested in one another.
type scan struct {
	rest  []byte             // not read yet
	fail  api.Errno          // OK till it fails
	later []func() api.Errno // what is asked when all own bytes have been gone over, in their order
}

// done tells how it went, and looks at what is within.
func (s *scan) done() api.Errno {
	if s.fail != api.OK {
		return s.fail
	}
	if len(s.rest) > 0 {
		return api.ErrTrail
	}
	for _, look := range s.later {
		if err := look(); err != api.OK {
			return err
		}
	}
	return api.OK
}

// read a field.
func (s *scan) read(m *api.Msg, f field) {
	switch f {
	case view:
		s.bounded(&m.View, mostNumber)
	case seq:
		s.bounded(&m.Seq, mostNumber)
	case hash:
		m.Hash = wire.New(s.take(wideHash)).Hash()
	case batch:
		s.batch(&m.Batch)
	case certificate:
		s.cert(&m.Cert)
	case proofs:
		s.proofs(m)
	case changes:
		s.changes(m)
	default: // the chunk
		m.Chunk = wire.Join(s.bytes())
	}
}

// bounded reads a number, which later is asked to be at most most.
func (s *scan) bounded(to *int, most uint64) {
	v := s.number()
	*to = int(v)
	s.within(v, most)
}

// within asks later whether v is at most most.
func (s *scan) within(v, most uint64) {
	s.ask(func() api.Errno {
		if v > most {
			return api.ErrForm
		}
		return api.OK
	})
}

// batch reads bytes, which later are asked to be a batch's.
func (s *scan) batch(to *[]api.Update) {
	x := s.bytes()
	s.ask(func() api.Errno {
		us, err := hist.Parse(x)
		if err == api.OK && len(us) > api.MaxBatch {
			err = api.ErrForm
		}
		*to = us
		return err
	})
}

// cert reads bytes, which later are asked to be a certificate's.
func (s *scan) cert(to *api.Cert) {
	x := s.bytes()
	s.ask(func() api.Errno {
		c, err := cert.Parse(x)
		*to = c
		return err
	})
}

// proofs that stand next, behind how many there are.
func (s *scan) proofs(m *api.Msg) {
	n := s.count(api.Window)
	for i := 0; i < n && s.fail == api.OK; i++ {
		var p api.Proof
		s.bounded(&p.View, mostNumber)
		s.bounded(&p.Seq, mostNumber)
		s.batch(&p.Batch)
		s.cert(&p.Cert)
		s.ask(func() api.Errno {
			m.Proofs = append(m.Proofs, p)
			return api.OK
		})
	}
}

// changes that stand next, behind how many there are.
func (s *scan) changes(m *api.Msg) {
	n := s.count(mostChanges)
	for i := 0; i < n && s.fail == api.OK; i++ {
		x := s.bytes()
		s.ask(func() api.Errno {
			c, err := Parse(x)
			if err == api.OK && c.Kind != api.TagChange {
				err = api.ErrForm
			}
			m.Changes = append(m.Changes, c)
			return err
		})
	}
}

// ask later.
func (s *scan) ask(look func() api.Errno) {
	s.later = append(s.later, look)
}

// number that stands next.
func (s *scan) number() uint64 {
	return wire.New(s.take(wideNumber)).Number()
}

// bytes that stand next, where they stand.
func (s *scan) bytes() []byte {
	return s.take(s.limited(api.MaxBytes))
}

// count that stands next, which later is asked to be at most most.
func (s *scan) count(most uint64) int {
	n := s.limited(api.MaxCount)
	s.within(n, most)
	return int(n)
}

// sig that stands next.
func (s *scan) sig() api.Sig {
	return wire.New(s.take(wideSig)).Sig()
}

// limited is the number that stands next, if that is at most limit; else the scan fails, and it is 0.
func (s *scan) limited(limit uint64) uint64 {
	v := s.number()
	if v > limit { // never behind a failure, when it is 0: the first error stays
		s.fail = api.ErrBig
		return 0
	}
	return v
}

// take so many bytes, where they stand; none, if it fails or has failed.
func (s *scan) take(n uint64) []byte {
	if s.fail != api.OK {
		return nil
	}
	if n > uint64(len(s.rest)) {
		s.fail = api.ErrShort
		return nil
	}
	x := s.rest[:n]
	s.rest = s.rest[n:]
	return x
}
