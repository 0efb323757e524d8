package audit_test

import (
	"encoding/binary"
	"math"
	"math/rand"
	"slices"
	"testing"

	"witan/api"
	"witan/audit"
)

// of answers one that grew: n keys ahead of it, and m updates of anything whose versions may be read.
func of(rnd *rand.Rand, n, m int) api.Grown {
	g := api.Grown{Id: noise(rnd), Keys: hashes(rnd, n), More: make([]api.Update, m)}
	for i := range g.More {
		u := &g.More[i]
		u.Id, u.Key, u.Version = noise(rnd), noise(rnd), rnd.Intn(api.MaxKeys+1)
		rnd.Read(u.Sig[:])
	}
	return g
}

// P13.2: what grew is read as it stands; neither who signed it, nor order, nor how much it is, is asked.
func TestGrown(t *testing.T) {
	rnd := rand.New(rand.NewSource(1310))
	parts := [][]byte{{0}, hides(noise(rnd)).bytes(), leafOf(noise(rnd), noise(rnd)).bytes()}
	for _, ns := range [][]int{{}, {0, 0}, {0, 1}, {1, 0}, {3, 2}, {64, 1}, {65, 5}, {300, 300}, {2, 1, 0, 0, 5, 7}, {1, 1, 1, 1, 1, 1, 1, 1}, {api.MaxCount, 1}} {
		var grown []api.Grown
		for i := 0; i < len(ns); i += 2 {
			grown = append(grown, of(rnd, ns[i], ns[i+1]))
		}
		for _, part := range parts {
			grows(t, laid(part, grown...), api.OK)
			grows(t, laid(part, append(grown, grown...)...), api.OK)
		}
		got, err := audit.Grown(laid(parts[0], grown...))
		if err != api.OK || !slices.EqualFunc(got, grown, same) {
			t.Errorf("of %v: %v, %d", ns, err, len(got))
		}
	}
	g := of(rnd, 1, 1)
	g.More[0].Version = 0
	grows(t, laid(parts[0], g, g, api.Grown{}), api.OK)
}

// P13.2: as many as a count may say.
func TestGrownMany(t *testing.T) {
	grown := make([]api.Grown, api.MaxCount)
	step := laid([]byte{0}, grown...)
	grows(t, step, api.OK)
	checks(t, api.Hash{}, api.Hash{}, step, api.ErrOrder)
	grows(t, laid([]byte{0}, append(grown, api.Grown{})...), api.ErrBig)
	most := api.Grown{More: make([]api.Update, (api.MaxBytes-8)/136)}
	grows(t, laid([]byte{0}, most, most), api.OK)
	most.More = append(most.More, api.Update{})
	grows(t, laid([]byte{0}, most), api.ErrBig)
}

// P13.2: bytes that end too early, at each place, or are left.
func TestGrownEnds(t *testing.T) {
	rnd := rand.New(rand.NewSource(1311))
	us := history(1, 3)
	has := around(rnd, 5, us[0].Id).apply(us[0])
	for _, step := range [][]byte{has.step(us...), laid([]byte{0}), laid([]byte{0}, of(rnd, 0, 0), of(rnd, 2, 1)), laid([]byte{9}, of(rnd, 0, 0))} {
		for n := range step {
			grows(t, step[:n], api.ErrShort)
			checks(t, has.root(), has.root(), step[:n], api.ErrShort)
		}
		for _, more := range [][]byte{{0}, {1}, step, make([]byte, 1000)} {
			grows(t, slices.Concat(step, more), api.ErrTrail)
			checks(t, has.root(), has.root(), slices.Concat(step, more), api.ErrTrail)
		}
	}
	grows(t, nil, api.ErrShort)
	grows(t, []byte{}, api.ErrShort)
	checks(t, api.Hash{}, api.Hash{}, nil, api.ErrShort)
}

// P13.2: numbers that are more than may be read, at each place where one stands, ahead of whether what they count is there.
func TestGrownTooBig(t *testing.T) {
	rnd := rand.New(rand.NewSource(1312))
	a, b := of(rnd, 2, 1), of(rnd, 0, 2)
	step := laid([]byte{0}, a, b)
	ofA := 9 + 8
	ofB := ofA + len(headOf(a)) + 8 + len(batchOf(a.More...))
	for _, x := range []struct {
		name string
		at   int
		most uint64
	}{
		{"the part's bytes", 0, api.MaxBytes},
		{"how many grew", 9, api.MaxCount},
		{"how many keys", ofA + 32, api.MaxCount},
		{"the batch's bytes", ofA + len(headOf(a)), api.MaxBytes},
		{"how many keys of the other", ofB + 32, api.MaxCount},
		{"the other's batch's bytes", ofB + len(headOf(b)), api.MaxBytes},
	} {
		for _, n := range []uint64{x.most, x.most + 1, 1 << 32, 1<<32 + 1, 1 << 63, math.MaxUint64} {
			want := api.ErrBig
			if n == x.most {
				want = api.ErrShort
			}
			c := slices.Clone(step)
			binary.BigEndian.PutUint64(c[x.at:], n)
			grows(t, c, want)
			grows(t, c[:x.at+8], want)
			grows(t, c[:x.at+7], api.ErrShort)
			checks(t, api.Hash{}, api.Hash{1}, c, want)
		}
	}
}

// P13.2: numbers one off, at each place.
func TestGrownOtherNumbers(t *testing.T) {
	rnd := rand.New(rand.NewSource(1313))
	us := slices.Concat(history(1, 2), history(2, 1))
	step := around(rnd, 5, us[0].Id).apply(us[0]).step(us...)
	for i := range len(step) - 8 {
		for _, by := range []int{1, -1, 8, -8, 32, -32} {
			c := slices.Clone(step)
			binary.BigEndian.PutUint64(c[i:], binary.BigEndian.Uint64(c[i:])+uint64(by))
			_, _, want := told(c)
			grows(t, c, want)
		}
	}
}

// P13.2: layer 10's and layer 11's errors, what stands ahead in the bytes ahead; layer 1's ahead of all.
func TestGrownErrors(t *testing.T) {
	u, late := history(1, 1)[0], made(1, api.MaxKeys+1, api.Hash{})
	two := batchOf(u, u)
	parts := map[api.Errno][][]byte{
		api.OK:       {{0}, hides(api.Hash{}).bytes()},
		api.ErrShort: {{}, {1}, {2, 0}, hides(api.Hash{}).bytes()[:32]},
		api.ErrTrail: {{0, 0}, append(hides(api.Hash{}).bytes(), 9)},
		api.ErrForm:  {{4}, {0xff, 0}, {2, 0, 0}, {2, 0, 0, 0}},
	}
	batches := map[api.Errno][][]byte{
		api.OK:       {number(0), batchOf(u), two},
		api.ErrShort: {{}, number(1), two[:7], two[:len(two)-1], number(api.MaxCount)},
		api.ErrTrail: {append(number(0), 0), append(slices.Clone(two), 7)},
		api.ErrBig:   {number(api.MaxCount + 1), number(-1)},
		api.ErrForm:  {batchOf(late), batchOf(u, late), batchOf(late, u)},
	}
	for first, ps := range parts {
		for _, p := range ps {
			for second, bs := range batches {
				for _, b := range bs {
					for third, cs := range batches {
						step := slices.Concat(framed(p), number(2), headOf(api.Grown{}), framed(b), headOf(api.Grown{Keys: make([]api.Hash, 2)}), framed(cs[len(cs)-1]))
						want := third
						if second != api.OK {
							want = second
						}
						if first != api.OK {
							want = first
						}
						grows(t, step, want)
						if want != api.OK {
							checks(t, api.Hash{}, api.Hash{}, step, want)
							checks(t, api.Hash{1}, api.Hash{}, step, want)
						}
						grows(t, step[:len(step)-1], api.ErrShort)
						grows(t, append(step, 0), api.ErrTrail)
						binary.BigEndian.PutUint64(step[8+len(p):], api.MaxCount+1)
						grows(t, step, api.ErrBig)
					}
				}
			}
		}
	}
}

// What is handed in stays as it is, its spare room too; what grew doesn't hang on it later, and no two lists of it share memory.
func TestGrownHandedIn(t *testing.T) {
	rnd := rand.New(rand.NewSource(1314))
	grown := []api.Grown{of(rnd, 3, 2), of(rnd, 1, 1), of(rnd, 9, 9), of(rnd, 0, 1), of(rnd, 1, 0)}
	step := laid([]byte{0}, grown...)
	room := append(slices.Clone(step), 1, 2, 3, 4)
	got, err := audit.Grown(room[:len(step)])
	if err != api.OK || !slices.Equal(room, append(slices.Clone(step), 1, 2, 3, 4)) {
		t.Fatalf("%v, or the bytes changed", err)
	}
	clear(room)
	if !slices.EqualFunc(got, grown, same) {
		t.Error("what grew hangs on the bytes")
	}
	for i := range got {
		clear(got[i].Keys[:cap(got[i].Keys)])
		if !slices.Equal(got[i].More, grown[i].More) {
			t.Errorf("%d: the updates changed with the keys", i)
		}
		clear(got[i].More[:cap(got[i].More)])
		if i+1 < len(got) && !same(got[i+1], grown[i+1]) {
			t.Errorf("%d changed with the one ahead", i+1)
		}
	}
	clear(got[:cap(got)])
	grows(t, step, api.OK)
}
