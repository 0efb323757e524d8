package witness_test

import (
	"bytes"
	"math/rand"
	"slices"
	"testing"

	"witan/api"
	"witan/witness"
)

// down answers the bytes of so many inner nodes whose other sides are empty, and the lowest one's side on a key's way.
func down(k api.Hash, depth int, lowest []byte) []byte {
	b := lowest
	for i := depth - 1; i >= 0; i-- {
		if side(k, i) == 0 {
			b = slices.Concat([]byte{2}, b, []byte{0})
		} else {
			b = slices.Concat([]byte{2, 0}, b)
		}
	}
	return b
}

// pair answers the bytes of an inner node at a depth on a key's way, whose sides are leaves.
func pair(k api.Hash, depth int) []byte {
	sides := [2][]byte{}
	for _, k := range []api.Hash{k, turned(k, depth)} {
		sides[side(k, depth)] = leafOf(k, api.Hash{8}).bytes()
	}
	return slices.Concat([]byte{2}, sides[0], sides[1])
}

// P10.2: parts that are right, and such as aren't, node by node.
func TestParse(t *testing.T) {
	left, right := leafOf(api.Hash{0x11}, api.Hash{5}).bytes(), leafOf(api.Hash{0x81}, api.Hash{6}).bytes()
	hidden, noughts := hides(api.Hash{7}).bytes(), hides(api.Hash{}).bytes()
	deeper := slices.Concat([]byte{2}, hidden, hidden)
	for _, x := range []struct {
		name string
		b    [][]byte
		want api.Errno
	}{
		{"nothing", nil, api.ErrShort},
		{"empty", [][]byte{{0}}, api.OK},
		{"a leaf", [][]byte{right}, api.OK},
		{"hidden", [][]byte{hidden}, api.OK},
		{"hidden noughts", [][]byte{noughts}, api.OK},
		{"two leaves", [][]byte{{2}, left, right}, api.OK},
		{"two hidden", [][]byte{{2}, hidden, hidden}, api.OK},
		{"two hidden noughts", [][]byte{{2}, noughts, noughts}, api.OK},
		{"two inner ones", [][]byte{{2}, deeper, deeper}, api.OK},
		{"a leaf, hidden", [][]byte{{2}, left, hidden}, api.OK},
		{"hidden, a leaf", [][]byte{{2}, hidden, right}, api.OK},
		{"empty, hidden", [][]byte{{2, 0}, hidden}, api.OK},
		{"hidden, empty", [][]byte{{2}, hidden, {0}}, api.OK},
		{"empty, inner", [][]byte{{2, 0}, deeper}, api.OK},
		{"inner, empty", [][]byte{{2}, deeper, {0}}, api.OK},
		{"inner, a leaf", [][]byte{{2}, deeper, right}, api.OK},
		{"a leaf, inner", [][]byte{{2}, left, deeper}, api.OK},
		{"inner, hidden", [][]byte{{2}, deeper, hidden}, api.OK},
		{"hidden, inner", [][]byte{{2}, hidden, deeper}, api.OK},
		{"empty, hidden noughts", [][]byte{{2, 0}, noughts}, api.OK},

		{"two empty ones", [][]byte{{2, 0, 0}}, api.ErrForm},
		{"empty, a leaf", [][]byte{{2, 0}, right}, api.ErrForm},
		{"a leaf, empty", [][]byte{{2}, left, {0}}, api.ErrForm},
		{"two empty ones, on the left", [][]byte{{2, 2, 0, 0}, hidden}, api.ErrForm},
		{"two empty ones, on the right", [][]byte{{2}, hidden, {2, 0, 0}}, api.ErrForm},
		{"empty, a leaf, on the left", [][]byte{{2, 2}, left, {0}, hidden}, api.ErrForm},
		{"empty, a leaf, on the right", [][]byte{{2}, hidden, {2}, right, {0}}, api.ErrForm},
		{"leaves on each other's side", [][]byte{{2}, right, left}, api.ErrForm},
		{"the right leaf on the left", [][]byte{{2}, right, hidden}, api.ErrForm},
		{"the left leaf on the right", [][]byte{{2}, hidden, left}, api.ErrForm},
		{"one leaf twice", [][]byte{{2}, left, left}, api.ErrForm},
	} {
		t.Run(x.name, func(t *testing.T) { parses(t, slices.Concat(x.b...), x.want) })
	}
}

// P10.2: each byte above 3, in the place of each node's first one.
func TestParseKinds(t *testing.T) {
	left, hidden := leafOf(api.Hash{}, api.Hash{}).bytes(), hides(api.Hash{7}).bytes()
	for _, ahead := range [][]byte{nil, {2}, {2, 0}, {2, 2}, {2, 2, 0}, append([]byte{2}, left...), append([]byte{2}, hidden...), down(api.Hash{}, 256, nil)[:256]} {
		for kind := 4; kind < 256; kind++ {
			b := append(slices.Clone(ahead), byte(kind))
			parses(t, b, api.ErrForm)
			parses(t, append(b, bytes.Repeat([]byte{byte(kind)}, 99)...), api.ErrForm)
		}
	}
}

// P10.2: bytes that end too early, at each place, and such as are left.
func TestParseEnds(t *testing.T) {
	rnd := rand.New(rand.NewSource(1030))
	for kind := range families {
		next := family(kind, rnd)
		have := some(rnd, 6, next)
		have[next()] = noise(rnd)
		for _, keys := range [][]api.Hash{nil, have.rising()[:1], {noise(rnd)}, have.rising()} {
			b := cutOf(have, 0, keys).bytes()
			for n := range b {
				parses(t, b[:n], api.ErrShort)
			}
			parses(t, b, api.OK)
			for _, more := range [][]byte{{0}, {1}, {9}, b, make([]byte, 1000)} {
				parses(t, append(slices.Clone(b), more...), api.ErrTrail)
			}
		}
	}
	parses(t, []byte{0, 0}, api.ErrTrail)
	parses(t, []byte{0, 4}, api.ErrTrail)
}

// P10.2: a leaf at each depth: its key leads there if all bits ahead are those of the way, whatever the others are.
func TestParseLeads(t *testing.T) {
	k := noise(rand.New(rand.NewSource(1031)))
	for depth := range 257 {
		for bit := range 256 {
			if depth > 9 && depth < 247 && bit != depth && bit != depth-1 && bit%32 != depth%32 {
				continue
			}
			want := api.OK
			if bit < depth {
				want = api.ErrForm
			}
			leaf := leafOf(turned(k, bit), api.Hash{1}).bytes()
			if depth == 0 {
				parses(t, leaf, want)
				continue
			}
			// Beside a hidden one, as a leaf beside an empty one is none.
			sides := [][]byte{{2}, leaf, hides(api.Hash{2}).bytes()}
			if side(k, depth-1) == 1 {
				sides[1], sides[2] = sides[2], sides[1]
			}
			parses(t, down(k, depth-1, slices.Concat(sides...)), want)
		}
	}
}

// P10.2: no inner node stands 256 deep; leaves, hidden ones and empty ones do.
func TestParseDeep(t *testing.T) {
	k := noise(rand.New(rand.NewSource(1032)))
	for depth := range 256 {
		parses(t, down(k, depth, pair(k, depth)), api.OK)
		parses(t, down(k, depth, slices.Concat([]byte{2}, hides(api.Hash{1}).bytes(), hides(api.Hash{2}).bytes())), api.OK)
	}
	parses(t, down(k, 256, hides(api.Hash{1}).bytes()), api.OK)
	hidden := hides(api.Hash{1}).bytes()
	parses(t, down(k, 256, slices.Concat([]byte{2}, hidden, hidden)), api.ErrForm)
	parses(t, down(k, 256, []byte{2, 0, 0}), api.ErrForm)
	for _, n := range []int{1, 2, 255, 256} {
		parses(t, bytes.Repeat([]byte{2}, n), api.ErrShort)
		parses(t, bytes.Repeat([]byte{2, 0}, n), api.ErrShort)
	}
	for _, n := range []int{257, 258, 300, 1 << 20} { // though they end too early, too
		parses(t, bytes.Repeat([]byte{2}, n), api.ErrForm)
		parses(t, bytes.Repeat([]byte{2, 0}, n)[:1<<9|1], api.ErrForm)
	}
}

// P10.2: of two faults the one that stands ahead in the bytes is told.
func TestParseFirstFault(t *testing.T) {
	hidden, short := hides(api.Hash{7}).bytes(), hides(api.Hash{7}).bytes()[:20]
	wrong := leafOf(api.Hash{0xff}, api.Hash{5}).bytes() // on the left
	for _, x := range []struct {
		name string
		b    [][]byte
		want api.Errno
	}{
		{"a byte, then an end", [][]byte{{2, 9}}, api.ErrForm},
		{"an end, where a byte would be", [][]byte{{2}, short}, api.ErrShort},
		{"a byte, then more", [][]byte{{9, 9}}, api.ErrForm},
		{"two empty ones, then an end", [][]byte{{2, 2, 0, 0}}, api.ErrForm},
		{"two empty ones, then an end within a node", [][]byte{{2, 2, 0, 0}, short}, api.ErrForm},
		{"two empty ones, then more", [][]byte{{2, 0, 0, 0}}, api.ErrForm},
		{"an end behind one empty one", [][]byte{{2, 0}}, api.ErrShort},
		{"an end within the leaf beside an empty one", [][]byte{{2, 0}, leafOf(api.Hash{0xff}, api.Hash{}).bytes()[:64]}, api.ErrShort},
		{"a wrong key, whose value ends too early", [][]byte{{2}, wrong[:64]}, api.ErrShort},
		{"a wrong key without a value", [][]byte{{2}, wrong[:33]}, api.ErrShort},
		{"a wrong key, then an end", [][]byte{{2}, wrong}, api.ErrForm},
		{"a wrong key, then more", [][]byte{{2}, wrong, hidden, hidden}, api.ErrForm},
		{"an end in the right side, the left one right", [][]byte{{2}, hidden, {2}, hidden}, api.ErrShort},
		{"more behind what is right", [][]byte{{2}, hidden, hidden, {2, 0, 0}}, api.ErrTrail},
		{"257 deep, then an end", [][]byte{bytes.Repeat([]byte{2}, 257)}, api.ErrForm},
		{"256 deep, then an end", [][]byte{bytes.Repeat([]byte{2}, 256)}, api.ErrShort},
	} {
		t.Run(x.name, func(t *testing.T) { parses(t, slices.Concat(x.b...), x.want) })
	}
}

// P10.2: parts that were cut come back as they were; with bits turned, bytes lost, doubled or set they are what the words say.
func TestParseTurned(t *testing.T) {
	for kind := range families {
		rnd := rand.New(rand.NewSource(int64(1040 + kind)))
		next := family(kind, rnd)
		for range 30 {
			have := some(rnd, 8, next)
			b := witness.Cut(treeOf(have), picked(rnd, 4, have, next)...).Bytes()
			parses(t, b, api.OK)
			for range 60 {
				c := slices.Clone(b)
				i := rnd.Intn(len(c))
				switch rnd.Intn(4) {
				case 0:
					c[i] ^= 1 << rnd.Intn(8)
				case 1:
					c = slices.Delete(c, i, i+1)
				case 2:
					c = slices.Insert(c, i, c[i])
				default:
					c[i] = byte(rnd.Intn(4))
				}
				_, want := readAll(c)
				parses(t, c, want)
			}
		}
	}
}

// What is handed in stays as it is, its spare room too; a part doesn't hang on it later.
func TestParseHandedIn(t *testing.T) {
	rnd := rand.New(rand.NewSource(1050))
	have := some(rnd, 20, family(0, rnd))
	s := cutOf(have, 0, have.rising())
	room := append(s.bytes(), bytes.Repeat([]byte{0xee}, 99)...)
	before := slices.Clone(room)
	p, err := witness.Parse(room[:len(room)-99])
	if err != api.OK || !bytes.Equal(room, before) {
		t.Fatalf("%v, or the bytes changed", err)
	}
	clear(room)
	holds(t, p, s)
	b := p.Bytes()
	clear(b[:cap(b)])
	holds(t, p, s)
}

// P10.2: as many bytes as may be handed in.
func TestParseMany(t *testing.T) {
	parses(t, make([]byte, 1<<20), api.ErrTrail)
	parses(t, bytes.Repeat([]byte{3}, 1<<20), api.ErrTrail)
	parses(t, bytes.Repeat([]byte{2}, 1<<20), api.ErrForm)
	rnd := rand.New(rand.NewSource(1051))
	have := pairs{}
	for range 10000 {
		have[noise(rnd)] = noise(rnd)
	}
	b := witness.Cut(treeOf(have), have.rising()...).Bytes()
	p, err := witness.Parse(b)
	if err != api.OK || p.Root() != treeOf(have).Root() || !bytes.Equal(p.Bytes(), b) {
		t.Errorf("%v, or it isn't the same", err)
	}
}

// FuzzParse holds what is read against the chapter's words: a part has one form alone.
func FuzzParse(f *testing.F) {
	rnd := rand.New(rand.NewSource(1060))
	for kind := range families {
		next := family(kind, rnd)
		have := some(rnd, 5, next)
		f.Add(cutOf(have, 0, picked(rnd, 3, have, next)).bytes())
	}
	f.Add([]byte{})
	f.Add([]byte{2, 0, 0})
	f.Add(bytes.Repeat([]byte{2}, 300))
	f.Add(down(api.Hash{}, 255, pair(api.Hash{}, 255)))
	f.Fuzz(func(t *testing.T, b []byte) {
		before := slices.Clone(b)
		s, want := readAll(b)
		parses(t, b, want)
		if !bytes.Equal(b, before) {
			t.Fatal("the bytes changed")
		}
		p, err := witness.Parse(b)
		if err != api.OK {
			return
		}
		if !bytes.Equal(p.Bytes(), b) {
			t.Errorf("other bytes: %x", head(p.Bytes()))
		}
		for _, k := range append(s.keys(), api.Hash{}) {
			puts(t, p, s, k, api.Hash{9})
			puts(t, p, s, turned(k, 255), api.Hash{})
		}
	})
}
