package disk_test

import (
	"bytes"
	"math"
	"math/rand"
	"testing"

	"witan/api"
	"witan/disk"
)

// The chapter's example.
func TestExample(t *testing.T) {
	d := diskOf(t, 5)
	a := d.Append([]byte("ab"))
	d.Sync()
	b, c := d.Append([]byte("cd")), d.Append([]byte("ef"))
	if a != api.OK || b != api.OK || c != api.ErrFull {
		t.Errorf("%v, %v, %v", a, b, c)
	}
	has(t, d, []byte("abcd"), 2)
	d.Crash(1)
	has(t, d, []byte("abc"), 3)
}

// P14.1: of a size below 0 there is no disk; of any other an empty one, however great it is.
func TestNew(t *testing.T) {
	for _, size := range []int{-1, -2, -5, math.MinInt32, math.MinInt + 1, math.MinInt} {
		if d, err := disk.New(size); d != nil || err != api.ErrArg {
			t.Errorf("of %d: %v", size, err)
		}
	}
	for _, size := range []int{0, 1, 2, 1 << 20, math.MaxInt32, math.MaxInt - 1, math.MaxInt} {
		d := diskOf(t, size)
		has(t, d, nil, 0)
		m := &model{size: size}
		for _, a := range []act{syncs(), crashes(3), cuts(0), cuts(1), appends(), appends(nil), appends(nil, []byte{}), appends([]byte{7}), appends([]byte{8}, []byte{9})} {
			does(t, d, m, a)
		}
	}
}

// P14.1: there is room up to the last byte of the size, of all parts together, and not for one more; where there is none, nothing is laid, not the parts either that would find room.
func TestFull(t *testing.T) {
	body := []byte("0123456789")
	for size := range 9 {
		for first := range size + 2 {
			for second := range size + 2 {
				for third := range 4 {
					d, m := diskOf(t, size), &model{size: size}
					for _, a := range []act{appends(body[:first]), syncs(), appends(body[:second], nil, body[:third]), appends(body[:third], body[:second]), appends(), appends(nil), appends(body[:1]), appends(nil, body[:2])} {
						does(t, d, m, a)
					}
				}
			}
		}
	}
}

// P14.1: where there was no room, there is some as soon as bytes are gone, by a cut or by a crash; of the size nothing gets lost.
func TestRoomAgain(t *testing.T) {
	d := diskOf(t, 4)
	for range 50 {
		if err := d.Append([]byte("abcd")); err != api.OK {
			t.Fatal(err)
		}
		if err := d.Append([]byte("e")); err != api.ErrFull {
			t.Fatal(err)
		}
		has(t, d, []byte("abcd"), 0)
		d.Crash(1)
		has(t, d, []byte("a"), 1)
		if err := d.Append([]byte("xyzw")); err != api.ErrFull {
			t.Fatal(err)
		}
		if err := d.Append([]byte("xyz")); err != api.OK {
			t.Fatal(err)
		}
		has(t, d, []byte("axyz"), 1)
		if err := d.Cut(0); err != api.OK {
			t.Fatal(err)
		}
		has(t, d, nil, 0)
	}
}

// sides answers numbers about 0 and n, and those that are greatest and least.
func sides(n int) []int {
	all := []int{math.MinInt, math.MinInt + 1, math.MinInt32, math.MaxInt32, math.MaxInt - 1, math.MaxInt}
	for i := -3; i <= n+3; i++ {
		all = append(all, i)
	}
	return all
}

// P14.1: of each number of bytes, each number of them safe, what each crash and each cut leaves, and what a further crash leaves of that.
func TestCrashAndCut(t *testing.T) {
	body := []byte("abcdef")
	for n := range len(body) + 1 {
		for safe := range n + 1 {
			for _, k := range sides(n) {
				for _, a := range []act{crashes(k), cuts(k)} {
					for again := range 4 {
						d, m := diskOf(t, 8), &model{size: 8}
						for _, b := range []act{appends(body[:safe]), syncs(), appends(body[safe:n]), a, appends([]byte("x")), crashes(again - 1), a, syncs()} {
							does(t, d, m, b)
						}
					}
				}
			}
		}
	}
}

// P14.1: a cut makes nothing safe that wasn't, and bytes that come behind it aren't safe though there were safe ones in their places.
func TestCutThenCrash(t *testing.T) {
	d := diskOf(t, 10)
	d.Append([]byte("abcd"))
	d.Sync()
	d.Append([]byte("efgh"))
	if err := d.Cut(6); err != api.OK {
		t.Fatal(err)
	}
	has(t, d, []byte("abcdef"), 4)
	if err := d.Cut(2); err != api.OK {
		t.Fatal(err)
	}
	has(t, d, []byte("ab"), 2)
	d.Append([]byte("xyz"))
	has(t, d, []byte("abxyz"), 2)
	d.Crash(0)
	has(t, d, []byte("ab"), 2)
}

// P14.1: every row of up to five calls of ten kinds, on disks of up to four bytes.
func TestAllRows(t *testing.T) {
	acts := []act{appends(), appends([]byte("a")), appends([]byte("b"), []byte("cd")), syncs(), crashes(-1), crashes(0), crashes(1), crashes(9), cuts(1), cuts(2)}
	depth := 5
	if testing.Short() {
		depth = 4
	}
	rows := 1
	for range depth {
		rows *= len(acts)
	}
	for size := range 5 {
		for row := range rows {
			d, m := diskOf(t, size), &model{size: size}
			for range depth {
				does(t, d, m, acts[row%len(acts)])
				row /= len(acts)
			}
		}
	}
}

// some answers up to four parts of up to most bytes each.
func some(rnd *rand.Rand, most int) [][]byte {
	parts := make([][]byte, rnd.Intn(5))
	for i := range parts {
		parts[i] = make([]byte, rnd.Intn(most+1))
		rnd.Read(parts[i])
	}
	return parts
}

// anything answers one act, for a disk of n bytes.
func anything(rnd *rand.Rand, n, most int) act {
	switch rnd.Intn(8) {
	case 0, 1, 2, 3:
		return appends(some(rnd, most)...)
	case 4, 5:
		return syncs()
	case 6:
		return crashes(rnd.Intn(2*most+4) - 2)
	}
	return cuts(rnd.Intn(n+4) - 2)
}

// P14.1: long rows of calls of anything.
func TestLongRows(t *testing.T) {
	rnd := rand.New(rand.NewSource(14))
	for _, size := range []int{0, 1, 10, 100, 3000, 1 << 40} {
		for range 40 {
			d, m := diskOf(t, size), &model{size: size}
			for range 300 {
				does(t, d, m, anything(rnd, d.Len(), 40))
			}
		}
	}
}

// P14.2: of a nil disk.
func TestNil(t *testing.T) {
	var d *disk.Disk
	for range 2 {
		for _, k := range []int{math.MinInt, -1, 0, 1, math.MaxInt} {
			if err := d.Cut(k); err != api.ErrNil {
				t.Errorf("Cut(%d): %v", k, err)
			}
			d.Crash(k)
		}
		d.Sync()
		for _, parts := range [][][]byte{nil, {}, {nil}, {{}}, {[]byte("ab"), []byte("c")}} {
			if err := d.Append(parts...); err != api.ErrNil {
				t.Errorf("Append of %d: %v", len(parts), err)
			}
		}
		if d.Len() != 0 || d.Safe() != 0 || len(d.Bytes()) != 0 {
			t.Errorf("%d, %d, %x", d.Len(), d.Safe(), d.Bytes())
		}
	}
}

// Rule 5: what is handed in is neither changed nor kept, its spare room included.
func TestHandedIn(t *testing.T) {
	d := diskOf(t, 100)
	room := []byte("abcdefgh")
	parts := make([][]byte, 2, 4)
	parts[0], parts[1] = room[:2], room[3:5]
	for _, size := range []int{0, 4} { // a disk that is full, too
		full := diskOf(t, size)
		full.Append([]byte("1"))
		full.Append(parts...)
		full.Append(parts...)
	}
	if err := d.Append(parts...); err != api.OK {
		t.Fatal(err)
	}
	d.Append([]byte("xyz"))
	d.Crash(5)
	d.Cut(1)
	d.Append([]byte("uvw"))
	has(t, d, []byte("auvw"), 1)
	if string(room) != "abcdefgh" || len(parts) != 2 || parts[:3][2] != nil || string(parts[0]) != "ab" || string(parts[1]) != "de" {
		t.Errorf("%q, %q", room, parts)
	}
	d.Cut(0)
	d.Append(parts...)
	clear(room)
	clear(parts)
	has(t, d, []byte("abde"), 0)
	d.Sync()
	clear(room)
	has(t, d, []byte("abde"), 4)
}

// Rule 5: an answer is new memory, its spare room too; what a disk does later isn't seen in it.
func TestAnswered(t *testing.T) {
	d := diskOf(t, 100)
	d.Append([]byte("abcdefgh"))
	d.Sync()
	d.Append([]byte("ij"))
	d.Cut(9)
	one, two := d.Bytes(), d.Bytes()
	clear(one[:cap(one)])
	if string(two) != "abcdefghi" {
		t.Errorf("two answers share memory: %q", two)
	}
	has(t, d, []byte("abcdefghi"), 8)
	three := append(two[:3], "XYZ"...)
	has(t, d, []byte("abcdefghi"), 8)
	d.Append([]byte("klm"))
	has(t, d, []byte("abcdefghiklm"), 8)
	d.Cut(0)
	none := d.Bytes()
	clear(none[:cap(none)])
	d.Append([]byte("QRSTUVWXYZ"))
	clear(none[:cap(none)])
	if string(two) != "abcXYZghi" || string(three) != "abcXYZ" || len(none) != 0 {
		t.Errorf("what the disk did later is seen: %q, %q, %q", two, three, none)
	}
	has(t, d, []byte("QRSTUVWXYZ"), 0)
}

// What a disk told may be handed to it, and to another one, as any bytes may.
func TestOwnBytes(t *testing.T) {
	d, e := diskOf(t, 9), diskOf(t, 6)
	d.Append([]byte("abc"))
	told := d.Bytes()
	for _, x := range []*disk.Disk{d, e} {
		if err := x.Append(told, told); err != api.OK {
			t.Error(err)
		}
	}
	has(t, d, []byte("abcabcabc"), 0)
	has(t, e, []byte("abcabc"), 0)
	d.Crash(4)
	has(t, d, []byte("abca"), 4)
	has(t, e, []byte("abcabc"), 0)
}

// Rule 7: what one disk does another one doesn't tell.
func TestUnlikeDisks(t *testing.T) {
	rnd := rand.New(rand.NewSource(41))
	var disks []*disk.Disk
	var models []*model
	for size := range 20 {
		disks, models = append(disks, diskOf(t, size*5)), append(models, &model{size: size * 5})
	}
	for range 300 {
		i := rnd.Intn(len(disks))
		does(t, disks[i], models[i], anything(rnd, disks[i].Len(), 10))
		for j, d := range disks {
			like(t, d, models[j])
		}
	}
}

// Rule 1: 2^20 parts; and parts that are far more than memory has, since all are one, find no room without being laid.
func TestMany(t *testing.T) {
	parts := make([][]byte, 1<<20)
	var want []byte
	for i := range parts {
		if i%3 != 0 {
			parts[i] = []byte{byte(i), byte(i >> 8)}[:i%3]
			want = append(want, parts[i]...)
		}
	}
	d := diskOf(t, len(want))
	if err := d.Append(parts...); err != api.OK {
		t.Fatal(err)
	}
	has(t, d, want, 0)
	less := diskOf(t, len(want)-1)
	if err := less.Append(parts...); err != api.ErrFull {
		t.Fatal(err)
	}
	has(t, less, nil, 0)
	big := make([]byte, 1<<20)
	for i := range parts {
		parts[i] = big
	}
	much := diskOf(t, 1<<40-1)
	if err := much.Append(parts...); err != api.ErrFull {
		t.Fatal(err)
	}
	has(t, much, nil, 0)
}

// FuzzDisk takes bytes for calls, two each.
func FuzzDisk(f *testing.F) {
	f.Add(5, []byte{0, 2, 1, 0, 0, 2, 0, 2, 2, 1})
	f.Add(40, []byte{4, 9, 1, 0, 4, 9, 3, 7, 2, 3, 3, 1})
	f.Fuzz(func(t *testing.T, size int, calls []byte) {
		if size < 0 {
			if d, err := disk.New(size); d != nil || err != api.ErrArg {
				t.Errorf("of %d: %v", size, err)
			}
			return
		}
		d, m := diskOf(t, size), &model{size: size}
		for i := 0; i+1 < len(calls) && i < 400; i += 2 {
			n := int(int8(calls[i+1]))
			body := bytes.Repeat([]byte{calls[i+1]}, max(n, 0))
			does(t, d, m, []act{appends(body), syncs(), crashes(n), cuts(n), appends(body, nil, []byte{calls[i]}, body)}[calls[i]%5])
		}
	})
}
