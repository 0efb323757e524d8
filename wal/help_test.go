package wal_test

import (
	"bytes"
	"crypto/sha256"
	"encoding/binary"
	"math/rand"
	"slices"
	"testing"

	"witan/api"
	"witan/disk"
	"witan/wal"
)

// big is what a body may have at most.
const big = 1 << 20

// headed answers bytes with a length that is said to be n ahead of them, and the sum of row i between the two, made without the program.
func headed(n uint64, i int, body []byte) []byte {
	var of []byte
	of = append(of, 6)
	of = binary.BigEndian.AppendUint64(of, uint64(i))
	sum := sha256.Sum256(append(of, body...))
	return slices.Concat(binary.BigEndian.AppendUint64(nil, n), sum[:8], body)
}

// laid answers the bytes of rows from number i on, as the chapter's words have them, made without the program.
func laid(i int, bodies ...[]byte) []byte {
	var all []byte
	for k, b := range bodies {
		all = append(all, headed(uint64(len(b)), i+k, b)...)
	}
	return all
}

// told answers what bytes of a disk say, and how many of them are that, made without the program: it tries each length that a row could have.
func told(b []byte) (rows [][]byte, end int) {
	for len(b)-end >= 16 {
		n := binary.BigEndian.Uint64(b[end:])
		if n > big || n > uint64(len(b)-end-16) {
			break
		}
		body := b[end+16:][:n]
		if !bytes.HasPrefix(b[end:], laid(len(rows), body)) {
			break
		}
		rows = append(rows, slices.Clone(body))
		end += 16 + int(n)
	}
	return rows, end
}

// noise answers n bytes of anything.
func noise(rnd *rand.Rand, n int) []byte {
	b := make([]byte, n)
	rnd.Read(b)
	return b
}

// some answers up to four bodies of up to most bytes each.
func some(rnd *rand.Rand, most int) [][]byte {
	all := make([][]byte, rnd.Intn(5))
	for i := range all {
		all[i] = noise(rnd, rnd.Intn(most+1))
	}
	return all
}

// diskOf answers a disk that has these bytes, of which the first ones are safe.
func diskOf(t testing.TB, size int, b []byte, safe int) *disk.Disk {
	t.Helper()
	d, err := disk.New(size)
	if err != api.OK {
		t.Fatalf("a disk of %d: %v", size, err)
	}
	a, c := d.Append(b[:safe]), api.OK
	d.Sync()
	if c = d.Append(b[safe:]); a != api.OK || c != api.OK || d.Safe() != safe {
		t.Fatalf("a disk of %d for %d bytes: %v, %v", size, len(b), a, c)
	}
	return d
}

// opened answers a log on a disk.
func opened(t testing.TB, d *disk.Disk) *wal.Log {
	t.Helper()
	l, err := wal.Open(d)
	if err != api.OK || l == nil {
		t.Fatalf("a log on a disk: %v", err)
	}
	return l
}

// same tells whether two rows of bodies are one, where nil and empty bodies are.
func same(a, b [][]byte) bool {
	return slices.EqualFunc(a, b, bytes.Equal)
}

// has looks at all that a log tells, and at its disk, of which all is to be safe, twice, since asking changes nothing.
func has(t testing.TB, d *disk.Disk, l *wal.Log, down bool, rows ...[]byte) {
	t.Helper()
	want := laid(0, rows...)
	for range 2 {
		if got := l.Rows(); !same(got, rows) || l.Len() != len(rows) || l.Down() != down {
			t.Fatalf("%d rows, of them told %d, down %v; not %d, %v", l.Len(), len(got), l.Down(), len(rows), down)
		}
		if got := d.Bytes(); !bytes.Equal(got, want) || d.Safe() != len(want) {
			t.Fatalf("the disk has %d bytes, %d safe; not %d", len(got), d.Safe(), len(want))
		}
	}
}

// model is a log and its disk as the chapter's words have them.
type model struct {
	size int
	rows [][]byte
	down bool
}

// write answers what a log's Write is to answer.
func (m *model) write(bodies ...[]byte) api.Errno {
	if m.down {
		return api.ErrDown
	}
	for _, b := range bodies {
		if len(b) > big {
			return api.ErrBig
		}
	}
	all := slices.Concat(m.rows, bodies)
	if len(laid(0, all...)) > m.size {
		m.down = true
		return api.ErrFull
	}
	m.rows = all
	return api.OK
}

// pair is a log with its disk and its model.
type pair struct {
	disk  *disk.Disk
	log   *wal.Log
	model model
}

// pairOf answers a log on an empty disk.
func pairOf(t testing.TB, size int) *pair {
	t.Helper()
	d := diskOf(t, size, nil, 0)
	p := &pair{d, opened(t, d), model{size: size}}
	p.like(t)
	return p
}

// like holds the log and its disk against the model.
func (p *pair) like(t testing.TB) {
	t.Helper()
	has(t, p.disk, p.log, p.model.down, p.model.rows...)
}

// write on both.
func (p *pair) write(t testing.TB, bodies ...[]byte) {
	t.Helper()
	if got, want := p.log.Write(bodies...), p.model.write(bodies...); got != want {
		t.Fatalf("Write of %d on %d bytes of %d: %v, not %v", len(bodies), p.disk.Len(), p.model.size, got, want)
	}
	p.like(t)
}

// open another log on the disk, which has the same rows, and is up.
func (p *pair) open(t testing.TB) {
	t.Helper()
	p.log, p.model.down = opened(t, p.disk), false
	p.like(t)
}

// tear the disk within a Write of these bodies: so many of their bytes are laid, and so many of these are kept by the crash; then another log is opened.
func (p *pair) tear(t testing.TB, laidBytes, keep int, bodies ...[]byte) {
	t.Helper()
	b := laid(len(p.model.rows), bodies...)
	b = b[:min(laidBytes, len(b), p.model.size-p.disk.Len())]
	if err := p.disk.Append(b); err != api.OK {
		t.Fatal(err)
	}
	p.disk.Crash(keep)
	left := min(keep, len(b))
	for _, x := range bodies {
		if left -= 16 + len(x); left < 0 {
			break
		}
		p.model.rows = slices.Concat(p.model.rows, [][]byte{x})
	}
	p.open(t)
}

// sumOf answers the first eight bytes of a digest.
func sumOf(parts ...[]byte) []byte {
	h := sha256.Sum256(slices.Concat(parts...))
	return h[:8]
}
