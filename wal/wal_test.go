package wal_test

import (
	"bytes"
	"encoding/hex"
	"math"
	"math/rand"
	"slices"
	"strings"
	"testing"

	"witan/api"
	"witan/disk"
	"witan/wal"
)

// The chapter's examples; the bytes were reckoned by hand from the words, with sha256sum.
func TestExample(t *testing.T) {
	d := diskOf(t, 100, nil, 0)
	l := opened(t, d)
	if err := l.Write([]byte("ab")); err != api.OK {
		t.Fatal(err)
	}
	if got := hex.EncodeToString(d.Bytes()); got != "0000000000000002"+"a2769cf28589fc6a"+"6162" || d.Safe() != 18 {
		t.Errorf("%s, %d safe", got, d.Safe())
	}
	if err := d.Cut(17); err != api.OK {
		t.Fatal(err)
	}
	m := opened(t, d)
	has(t, d, m, false)
	if d.Len() != 0 || m.Len() != 0 {
		t.Errorf("%d bytes, %d rows", d.Len(), m.Len())
	}
}

// P15.1: no disk, no log.
func TestOpenNil(t *testing.T) {
	for range 2 {
		if l, err := wal.Open(nil); l != nil || err != api.ErrNil {
			t.Errorf("%v", err)
		}
	}
}

// P15.1: of each beginning of a row of rows, each number of its bytes safe, just the rows that are whole are said; the rest is cut away, and all that is left is safe.
func TestOpenTorn(t *testing.T) {
	rows := [][]byte{[]byte("ab"), nil, []byte("c"), make([]byte, 20), nil, nil, []byte("the last one")}
	all := laid(0, rows...)
	for n := range len(all) + 1 {
		whole := 0
		for len(laid(0, rows[:whole]...)) <= n && whole < len(rows) {
			whole++
		}
		if len(laid(0, rows[:whole]...)) > n {
			whole--
		}
		for safe := range n + 1 {
			d := diskOf(t, len(all), all[:n], safe)
			l := opened(t, d)
			has(t, d, l, false, rows[:whole]...)
			d.Crash(0)
			has(t, d, l, false, rows[:whole]...)
			if err := l.Write(rows[whole:]...); err != api.OK {
				t.Fatal(err)
			}
			has(t, d, l, false, rows...)
		}
	}
}

// P15.1: a bit that is turned, wherever it is, takes its row and those behind it.
func TestOpenTurned(t *testing.T) {
	rows := [][]byte{[]byte("ab"), nil, []byte("cde"), {0}, []byte("f")}
	all := laid(0, rows...)
	end := 0
	for i, r := range rows {
		first := end
		end += 16 + len(r)
		for at := first; at < end; at++ {
			for bit := range 8 {
				b := slices.Clone(all)
				b[at] ^= 1 << bit
				d := diskOf(t, 1000, b, len(b))
				has(t, d, opened(t, d), false, rows[:i]...)
			}
		}
	}
}

// P15.1: a row that has another one's number isn't right where it stands: rows twice, left out, in another order, or of numbers that don't begin with 0.
func TestOpenNumbers(t *testing.T) {
	a, b, c := []byte("a"), []byte("b"), []byte("c")
	for _, x := range []struct {
		bytes []byte
		rows  [][]byte
	}{
		{slices.Concat(laid(0, a), laid(0, a)), [][]byte{a}},
		{slices.Concat(laid(0, a), laid(1, a)), [][]byte{a, a}},
		{slices.Concat(laid(0, a), laid(2, c)), [][]byte{a}},
		{slices.Concat(laid(0, a), laid(2, c), laid(1, b)), [][]byte{a}},
		{slices.Concat(laid(0, a), laid(1, b), laid(1, b), laid(2, c)), [][]byte{a, b}},
		{slices.Concat(laid(0, nil), laid(0, nil)), [][]byte{nil}},
		{laid(1, a, b), nil},
		{laid(-1, a, b), nil},
		{laid(1<<32, a), nil},
		{slices.Concat(laid(0, a), laid(1<<32+1, b)), [][]byte{a}},
		{slices.Concat(laid(0, a), laid(1+256, b)), [][]byte{a}},
		{slices.Concat(laid(0, a), []byte{0}, laid(1, b)), [][]byte{a}},
	} {
		d := diskOf(t, 1000, x.bytes, 3)
		has(t, d, opened(t, d), false, x.rows...)
	}
}

// P15.1: a length that is more than the disk has, however great, or another one than that of the body whose sum stands there; and sums of other things.
func TestOpenWrong(t *testing.T) {
	a := []byte("the first row")
	next := []byte("another")
	var all [][]byte
	for _, n := range []uint64{0, 1, 6, 8, 16, 23, 1 << 20, 1<<20 + 1, 1 << 31, 1 << 32, 1<<32 + 7, 1<<56 + 7, math.MaxInt64 - 16, math.MaxInt64 - 15, math.MaxInt64, 1 << 63, 1<<63 + 7, math.MaxUint64 - 16, math.MaxUint64 - 15, math.MaxUint64 - 7, math.MaxUint64} {
		all = append(all, headed(n, 1, next))
	}
	right := headed(7, 1, next)
	for _, mark := range []byte{0, 1, 2, 3, 4, 5, 7, 255} {
		all = append(all, slices.Concat(right[:8], sumOf([]byte{mark, 0, 0, 0, 0, 0, 0, 0, 1}, next), next))
	}
	all = append(all, slices.Concat(right[:8], make([]byte, 8), next), make([]byte, 16), make([]byte, 100), bytes.Repeat([]byte{255}, 100),
		slices.Concat(right[:8], sumOf([]byte{6, 0, 0, 0, 0, 0, 0, 0, 1}, next[:6]), next),
		slices.Concat(right[:8], sumOf([]byte{6}, next), next),
		slices.Concat(right[:8], sumOf([]byte{6, 0, 0, 0, 0, 0, 0, 0, 1}, []byte{0, 0, 0, 0, 0, 0, 0, 7}, next), next))
	for i, x := range all {
		for _, behind := range [][]byte{nil, laid(2, next), make([]byte, 64)} {
			d := diskOf(t, 1000, slices.Concat(laid(0, a), x, behind), 10)
			l := opened(t, d)
			if l.Len() != 1 {
				t.Errorf("%d: %d rows", i, l.Len())
			}
			has(t, d, l, false, a)
		}
	}
	d := diskOf(t, 1000, slices.Concat(laid(0, a), right), 10)
	has(t, d, opened(t, d), false, a, next)
}

// P15.1: a body of MaxBytes bytes is a row's; one of a byte more isn't, though its sum be right.
func TestOpenBig(t *testing.T) {
	most, more := make([]byte, big), make([]byte, big+1)
	d := diskOf(t, 5*big, slices.Concat(laid(0, nil, most), laid(2, more), laid(3, nil)), 0)
	l := opened(t, d)
	has(t, d, l, false, nil, most)
	d = diskOf(t, 5*big, slices.Concat(laid(0, most, most[1:])), 0)
	has(t, d, opened(t, d), false, most, most[1:])
	d = diskOf(t, 5*big, laid(0, more), 0)
	has(t, d, opened(t, d), false)
}

// P15.1: what bytes of anything say, and rows with anything among them.
func TestOpenNoise(t *testing.T) {
	rnd := rand.New(rand.NewSource(15))
	for range 5000 {
		b := laid(0, some(rnd, 20)...)
		b = append(b, laid(rnd.Intn(5), some(rnd, 20)...)...)
		if len(b) > 0 && rnd.Intn(3) == 0 {
			b[rnd.Intn(len(b))] ^= 1 << rnd.Intn(8)
		}
		b = append(b, noise(rnd, rnd.Intn(40))...)
		opens(t, b, rnd.Intn(len(b)+1))
	}
}

// opens a log on a disk with these bytes, and holds it against what they say.
func opens(t testing.TB, b []byte, safe int) {
	t.Helper()
	rows, end := told(b)
	d := diskOf(t, len(b)+rand.New(rand.NewSource(int64(safe))).Intn(3), b, safe)
	l := opened(t, d)
	has(t, d, l, false, rows...)
	if d.Len() != end {
		t.Errorf("%d bytes are left, not %d", d.Len(), end)
	}
	has(t, d, opened(t, d), false, rows...)
}

// P15.2: each of the errors stands ahead of those behind it; what answers one lays nothing.
func TestWriteErrors(t *testing.T) {
	more := make([]byte, big+1)
	p := pairOf(t, 40)
	p.write(t, []byte("ab"))
	p.write(t, more)                     // there is no room either: the log isn't down
	p.write(t, []byte("c"), more)        // what is ahead of it isn't laid
	p.write(t, more, []byte("c"))        // nor what is behind it
	p.write(t, make([]byte, 100), more)  // nor asked whether there is room
	p.write(t, []byte("c"), []byte("d")) // the second one finds no room
	if !p.log.Down() || p.disk.Len() != 18 {
		t.Fatal("it isn't down")
	}
	for range 2 {
		p.write(t, []byte("c")) // there is room for it, yet
		p.write(t)
		p.write(t, nil)
		p.write(t, more)
		p.write(t, make([]byte, 100))
	}
	p.open(t)
	p.write(t, []byte("c"))
	p.write(t)
	if len(p.model.rows) != 2 {
		t.Error("a log opened anew is down")
	}
}

// P15.2: a body has at most MaxBytes bytes.
func TestWriteBig(t *testing.T) {
	most := bytes.Repeat([]byte("0123456789abcdef"), big/16)
	p := pairOf(t, 3*big)
	p.write(t, most)
	p.write(t, append(most, 0))
	p.write(t, nil, most[1:])
	p.write(t, make([]byte, 2*big))
	p.open(t)
	if p.write(t, []byte("x")); len(p.model.rows) != 4 || p.model.down {
		t.Errorf("%d rows", len(p.model.rows))
	}
}

// P15.2: of each size of disk, bodies of each few sizes, in one call and in two: all of a call's rows are there, or none, and the log is down.
func TestWriteFull(t *testing.T) {
	body := []byte("0123456789")
	for size := range 60 {
		for _, first := range []int{0, 1, 2, 9} {
			for _, second := range []int{0, 1, 2, 9} {
				p := pairOf(t, size)
				p.write(t, body[:first], body[:second])
				p.write(t, body[:second])
				p.write(t)
				p.open(t)
				p.write(t, body[:first])
				p.write(t, nil)
				p.write(t, body[:second], nil)
				p.open(t)
			}
		}
	}
}

// P15.2: no rows find room on any disk, and are OK; the disk is synced then, too.
func TestWriteNothing(t *testing.T) {
	for _, size := range []int{0, 15, 16, 1000} {
		p := pairOf(t, size)
		for range 3 {
			p.write(t)
			p.write(t, [][]byte{}...)
		}
		p.open(t)
	}
	d := diskOf(t, 16, nil, 0)
	l := opened(t, d)
	if err := l.Write(nil); err != api.OK {
		t.Fatal(err)
	}
	if err := l.Write(); err != api.OK || l.Down() {
		t.Errorf("%v, on a disk that is full", err)
	}
	e := diskOf(t, 100, nil, 0)
	m := opened(t, e)
	e.Append(laid(0, []byte("ab"))[:10]) // of somebody else
	if err := m.Write(); err != api.OK || e.Safe() != 10 {
		t.Errorf("%v, %d bytes safe", err, e.Safe())
	}
}

// P15.2: of a nil log.
func TestNil(t *testing.T) {
	var l *wal.Log
	for range 2 {
		for _, bodies := range [][][]byte{nil, {}, {nil}, {[]byte("ab"), nil}, {make([]byte, big+1)}} {
			if err := l.Write(bodies...); err != api.ErrNil {
				t.Errorf("Write of %d: %v", len(bodies), err)
			}
		}
		if l.Len() != 0 || len(l.Rows()) != 0 || !l.Down() {
			t.Errorf("%d, %d, %v", l.Len(), len(l.Rows()), l.Down())
		}
	}
}

// P15.2: rows have numbers of more than a byte, in calls of one row, and of many.
func TestNumbers(t *testing.T) {
	p := pairOf(t, 1<<21)
	for i := range 300 {
		p.write(t, []byte{byte(i)})
	}
	p.open(t)
	p.write(t, make([][]byte, 70000-300)...)
	p.open(t)
	p.tear(t, 100, 40, nil, []byte("ab"), nil)
	if len(p.model.rows) != 70002 {
		t.Errorf("%d rows", len(p.model.rows))
	}
}

// P15.2: long rows of calls of anything, on disks of unlike sizes.
func TestLongRows(t *testing.T) {
	rnd := rand.New(rand.NewSource(51))
	for _, size := range []int{0, 16, 100, 1000, 4000} {
		for range 20 {
			p := pairOf(t, size)
			for range 60 {
				switch rnd.Intn(10) {
				case 0:
					p.open(t)
				case 1:
					p.disk.Crash(rnd.Intn(50))
					p.like(t)
				default:
					p.write(t, some(rnd, 30)...)
				}
			}
		}
	}
}

// P15.3: of each row of up to three calls that were OK, a crash within one more at each of its bytes, and the log that is opened then; it is written on, and torn again.
func TestTorn(t *testing.T) {
	calls := [][][]byte{{}, {nil}, {[]byte("ab")}, {[]byte("c"), nil, []byte("de")}}
	depth := 3
	if testing.Short() {
		depth = 2
	}
	rows := 1
	for range depth + 1 {
		rows *= len(calls)
	}
	for row := range rows {
		last := calls[row%len(calls)]
		for k := range len(laid(0, last...)) + 1 {
			p := pairOf(t, 1000)
			for r, n := row/len(calls), 0; n < depth; r, n = r/len(calls), n+1 {
				p.write(t, calls[r%len(calls)]...)
			}
			p.tear(t, k, k, last...)
			p.tear(t, k+3, k, last...)
			p.write(t, last...)
			p.tear(t, 1000, k, []byte("x"), nil)
			p.write(t, []byte("y"), []byte("z"))
			p.tear(t, 0, 0)
		}
	}
}

// P15.3: long rows of calls and crashes, on disks that may be full.
func TestLongTorn(t *testing.T) {
	rnd := rand.New(rand.NewSource(153))
	for _, size := range []int{0, 20, 200, 2000, 1 << 40} {
		for range 20 {
			p := pairOf(t, size)
			for range 60 {
				bodies := some(rnd, 30)
				if rnd.Intn(3) > 0 {
					p.write(t, bodies...)
					continue
				}
				n := rnd.Intn(len(laid(0, bodies...)) + 1)
				p.tear(t, n, rnd.Intn(n+2), bodies...)
			}
		}
	}
}

// P15.3: what a call that was OK laid is safe, whatever a crash keeps; what an earlier log left of a torn row never comes to light behind a later one's rows.
func TestNothingComesBack(t *testing.T) {
	d := diskOf(t, 1000, nil, 0)
	l := opened(t, d)
	l.Write([]byte("a"))
	// A row whose number is the one after the next, laid by a call that a crash came into: it is gone ahead of all that is written then.
	d.Append(slices.Concat(laid(1, []byte("lost"))[:19], laid(2, []byte("x"))))
	d.Crash(1000)
	m := opened(t, d)
	has(t, d, m, false, []byte("a"))
	m.Write([]byte("lost"))
	d.Crash(0)
	has(t, d, opened(t, d), false, []byte("a"), []byte("lost"))
}

// A row within a row's body is no row.
func TestRowsInBodies(t *testing.T) {
	p := pairOf(t, 100000)
	p.write(t, laid(0, []byte("ab"), nil), laid(1, []byte("c")))
	for range 5 {
		p.write(t, p.disk.Bytes(), laid(len(p.model.rows), []byte("d")))
		p.open(t)
	}
	n := len(laid(0, p.model.rows...))
	p.tear(t, n, 16+40, slices.Concat(laid(len(p.model.rows), []byte("e"), []byte("f")), make([]byte, 40)))
	if p.disk.Len() != n {
		t.Errorf("%d bytes, not %d", p.disk.Len(), n)
	}
}

// Rule 5: what is handed in is neither changed nor kept, its spare room included.
func TestHandedIn(t *testing.T) {
	room := []byte("abcdefgh")
	bodies := make([][]byte, 2, 4)
	bodies[0], bodies[1] = room[:2], room[3:5]
	for _, size := range []int{0, 20, 40, 1000} { // disks that are full, too
		d := diskOf(t, size, nil, 0)
		l := opened(t, d)
		l.Write(bodies...)
		l.Write([]byte("x"))
		l.Write(bodies...)
		clear(l.Rows())
	}
	if string(room) != "abcdefgh" || len(bodies) != 2 || bodies[:3][2] != nil || string(bodies[0]) != "ab" || string(bodies[1]) != "de" {
		t.Errorf("%q, %q", room, bodies)
	}
	d := diskOf(t, 1000, nil, 0)
	l := opened(t, d)
	l.Write(bodies...)
	clear(room)
	clear(bodies)
	has(t, d, l, false, []byte("ab"), []byte("de"))
	l.Write([]byte("f"))
	has(t, d, l, false, []byte("ab"), []byte("de"), []byte("f"))
}

// Rule 5: an answer is new memory, its spare room too, and no two of its bodies share any; what the log does later isn't seen in it.
func TestAnswered(t *testing.T) {
	rows := [][]byte{[]byte("abcdef"), nil, []byte("ghi"), []byte("jklmno")}
	written, read := diskOf(t, 1000, nil, 0), diskOf(t, 1000, laid(0, rows...), 20)
	l := opened(t, written)
	l.Write(rows[:2]...)
	l.Write(rows[2:]...)
	for _, x := range []struct {
		d *disk.Disk
		l *wal.Log
	}{{written, l}, {read, opened(t, read)}} {
		old := x.l.Rows()
		for i := range rows {
			one, two := x.l.Rows(), x.l.Rows()
			if b := one[i]; cap(b) > 0 {
				copy(b[:cap(b)], strings.Repeat("#", cap(b)))
			}
			for k := range rows {
				if k != i && !bytes.Equal(one[k], rows[k]) {
					t.Errorf("body %d is changed with body %d: %q", k, i, one[k])
				}
			}
			clear(one[:cap(one)])
			if !same(two, rows) {
				t.Errorf("two answers share memory: %q", two)
			}
			has(t, x.d, x.l, false, rows...)
		}
		x.l.Write([]byte("more"))
		if !same(old, rows) {
			t.Errorf("what the log did later is seen: %q", old)
		}
		clear(x.d.Bytes())
		has(t, x.d, x.l, false, slices.Concat(rows, [][]byte{[]byte("more")})...)
	}
}

// Rows that a log told may be written on it, and on another one, as any bodies may.
func TestOwnRows(t *testing.T) {
	p, q := pairOf(t, 1000), pairOf(t, 1000)
	p.write(t, []byte("ab"), nil, []byte("c"))
	for range 3 {
		q.write(t, p.log.Rows()...)
		p.write(t, p.log.Rows()...)
		p.open(t)
	}
	if len(p.model.rows) != 24 || len(q.model.rows) != 21 {
		t.Errorf("%d and %d rows", len(p.model.rows), len(q.model.rows))
	}
}

// Rule 7: what one log does another one, on another disk, doesn't tell.
func TestUnlikeLogs(t *testing.T) {
	rnd := rand.New(rand.NewSource(7))
	var pairs []*pair
	for i := range 12 {
		pairs = append(pairs, pairOf(t, i*50))
	}
	for range 200 {
		i := rnd.Intn(len(pairs))
		if rnd.Intn(5) == 0 {
			pairs[i].tear(t, 30, rnd.Intn(30), some(rnd, 20)...)
		} else {
			pairs[i].write(t, some(rnd, 20)...)
		}
		for _, p := range pairs {
			p.like(t)
		}
	}
}

// Rule 1: 2^20 bodies; a byte less of room, and none is there.
func TestMany(t *testing.T) {
	if testing.Short() {
		t.Skip("takes seconds")
	}
	bodies := make([][]byte, 1<<20)
	for i := range bodies {
		bodies[i] = []byte{byte(i), byte(i >> 8), byte(i >> 16)}[:i%4]
	}
	n := len(laid(0, bodies...))
	for _, size := range []int{n, n - 1} {
		p := pairOf(t, size)
		p.write(t, bodies...)
		p.write(t, nil)
		p.open(t)
	}
}

// FuzzOpen takes bytes for what a disk has.
func FuzzOpen(f *testing.F) {
	f.Add(laid(0, []byte("ab"), nil, []byte("c")), uint(3))
	f.Add(slices.Concat(laid(0, []byte("ab")), laid(0, []byte("ab"))), uint(0))
	f.Add(headed(1<<20+1, 0, nil), uint(16))
	f.Add(headed(math.MaxUint64, 0, []byte("x")), uint(1))
	f.Fuzz(func(t *testing.T, b []byte, safe uint) {
		opens(t, b, int(min(safe, uint(len(b)))))
		// Any bytes, behind them, as rows that are right; and torn.
		p := pairOf(t, 1<<20)
		p.write(t, b, b[:len(b)/2], nil)
		p.tear(t, 1<<20, int(min(safe, 1<<20)), b, nil, b[:len(b)/3])
		p.write(t, b)
	})
}
