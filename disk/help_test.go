package disk_test

import (
	"bytes"
	"testing"

	"witan/api"
	"witan/disk"
)

// cell is a byte that a model has.
type cell struct {
	value byte
	safe  bool
}

// model is a disk as the chapter's words have it: it knows of each byte by itself whether it is safe.
type model struct {
	size  int
	cells []cell
}

// append answers what a disk's Append is to answer.
func (m *model) append(parts ...[]byte) api.Errno {
	all := bytes.Join(parts, nil)
	if len(m.cells)+len(all) > m.size {
		return api.ErrFull
	}
	for _, b := range all {
		m.cells = append(m.cells, cell{value: b})
	}
	return api.OK
}

// sync makes each byte safe.
func (m *model) sync() {
	for i := range m.cells {
		m.cells[i].safe = true
	}
}

// crash goes from byte to byte, and keeps those that are safe, and of the others the first keep ones.
func (m *model) crash(keep int) {
	var left []cell
	for _, c := range m.cells {
		if !c.safe && keep <= 0 {
			continue
		}
		if !c.safe {
			keep--
		}
		left = append(left, cell{c.value, true})
	}
	m.cells = left
}

// cut answers what a disk's Cut is to answer.
func (m *model) cut(n int) api.Errno {
	if n < 0 || n > len(m.cells) {
		return api.ErrArg
	}
	var left []cell
	for i := range n {
		left = append(left, m.cells[i])
	}
	m.cells = left
	return api.OK
}

// bytes answers the values, and how many are safe.
func (m *model) bytes() ([]byte, int) {
	var all []byte
	safe := 0
	for _, c := range m.cells {
		all = append(all, c.value)
		if c.safe {
			safe++
		}
	}
	return all, safe
}

// diskOf answers an empty disk.
func diskOf(t testing.TB, size int) *disk.Disk {
	t.Helper()
	d, err := disk.New(size)
	if err != api.OK || d == nil {
		t.Fatalf("a disk of %d: %v", size, err)
	}
	return d
}

// has looks at all that a disk tells, twice, since asking changes nothing.
func has(t testing.TB, d *disk.Disk, want []byte, safe int) {
	t.Helper()
	for range 2 {
		if got := d.Bytes(); !bytes.Equal(got, want) || d.Len() != len(want) || d.Safe() != safe {
			t.Fatalf("%x, %d of %d safe; not %x, %d of %d", got, d.Safe(), d.Len(), want, safe, len(want))
		}
	}
}

// like holds a disk against a model.
func like(t testing.TB, d *disk.Disk, m *model) {
	t.Helper()
	want, safe := m.bytes()
	has(t, d, want, safe)
}

// act is one call on a disk, and on its model.
type act struct {
	name  string
	disk  func(d *disk.Disk) api.Errno
	model func(m *model) api.Errno
}

// appends, syncs, crashes and cuts are the acts of the four calls.
func appends(parts ...[]byte) act {
	return act{
		"Append",
		func(d *disk.Disk) api.Errno { return d.Append(parts...) },
		func(m *model) api.Errno { return m.append(parts...) },
	}
}

func syncs() act {
	return act{
		"Sync",
		func(d *disk.Disk) api.Errno { d.Sync(); return api.OK },
		func(m *model) api.Errno { m.sync(); return api.OK },
	}
}

func crashes(keep int) act {
	return act{
		"Crash",
		func(d *disk.Disk) api.Errno { d.Crash(keep); return api.OK },
		func(m *model) api.Errno { m.crash(keep); return api.OK },
	}
}

func cuts(n int) act {
	return act{
		"Cut",
		func(d *disk.Disk) api.Errno { return d.Cut(n) },
		func(m *model) api.Errno { return m.cut(n) },
	}
}

// does an act on both, and holds the one against the other.
func does(t testing.TB, d *disk.Disk, m *model, a act) {
	t.Helper()
	if got, want := a.disk(d), a.model(m); got != want {
		t.Fatalf("%s on %d bytes of %d: %v, not %v", a.name, d.Len(), m.size, got, want)
	}
	like(t, d, m)
}
