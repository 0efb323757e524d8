package audit_test

import (
	"bytes"
	"maps"
	"math/rand"
	"slices"
	"testing"

	"witan/api"
	"witan/audit"
	"witan/dir"
	"witan/tree"
	"witan/witness"
)

// three answers the updates, versions 1 to 5, of three owners whose identities rise.
func three() [3][]api.Update {
	us := [3][]api.Update{history(1, 5), history(2, 5), history(3, 5)}
	slices.SortFunc(us[:], func(x, y []api.Update) int { return bytes.Compare(x[0].Id[:], y[0].Id[:]) })
	return us
}

// grew answers one that grew: behind so many of its updates come these.
func grew(us []api.Update, ahead int, more ...api.Update) api.Grown {
	return api.Grown{Id: us[0].Id, Keys: keysOf(us[:ahead]), More: more}
}

// bent answers the update with a bit of its signature turned.
func bent(u api.Update) api.Update {
	u.Sig[40] ^= 4
	return u
}

// P13.2: each of the errors of what grew, and which of two is told: within one identity in the order of the words, and all of the one ahead of all of the next.
func TestCheckGrown(t *testing.T) {
	us := three()
	a, b, c := us[0], us[1], us[2]
	has := around(rand.New(rand.NewSource(1320)), 20, a[0].Id, b[0].Id, c[0].Id).apply(a[0], a[1], c[0])
	part := has.cut(a[0].Id, b[0].Id, c[0].Id).bytes()
	whole := has.cut(slices.Collect(maps.Keys(has))...).bytes()
	hidden := has.cut().bytes()
	onA, onB, onC := grew(a, 2, a[2], a[3]), grew(b, 0, b[0]), grew(c, 1, c[1])
	next := has.apply(a[2], a[3], b[0], c[1])
	nobody := api.Grown{Id: turned(b[0].Id, 255), More: b[:1]}
	again := made(a[0].Key[0], 4, api.Hash{9}) // a key begins with its owner's number
	for _, x := range []struct {
		name  string
		part  []byte
		grown []api.Grown
		want  api.Errno
	}{
		{"as it is", part, []api.Grown{onA, onB, onC}, api.OK},
		{"all shown", whole, []api.Grown{onA, onB, onC}, api.OK},

		{"the first two swapped", part, []api.Grown{onB, onA, onC}, api.ErrOrder},
		{"the last two swapped", part, []api.Grown{onA, onC, onB}, api.ErrOrder},
		{"falling", part, []api.Grown{onC, onB, onA}, api.ErrOrder},
		{"one twice", part, []api.Grown{onA, onB, onB, onC}, api.ErrOrder},
		{"one in two", part, []api.Grown{grew(a, 2, a[2]), grew(a, 3, a[3]), onB, onC}, api.ErrOrder},
		{"the first without an update", part, []api.Grown{grew(a, 2), onB, onC}, api.ErrOrder},
		{"the last without an update", part, []api.Grown{onA, onB, grew(c, 1)}, api.ErrOrder},
		{"nobody, without an update", part, []api.Grown{{Id: nobody.Id}}, api.ErrOrder},
		{"without an update, hidden", hidden, []api.Grown{grew(a, 2)}, api.ErrOrder},
		{"without an update, another history", part, []api.Grown{grew(a, 1), onB, onC}, api.ErrOrder},
		{"one twice, then another history", part, []api.Grown{onA, onA, grew(c, 0, c[1])}, api.ErrOrder},

		{"hidden", hidden, []api.Grown{onA, onB, onC}, api.ErrUnknown},
		{"the first hidden", has.cut(b[0].Id, c[0].Id).bytes(), []api.Grown{onA, onB, onC}, api.ErrUnknown},
		{"the last hidden", has.cut(a[0].Id, b[0].Id).bytes(), []api.Grown{onA, onB, onC}, api.ErrUnknown},
		{"hidden, another history", hidden, []api.Grown{grew(a, 1, a[2])}, api.ErrUnknown},
		{"hidden, no history", hidden, []api.Grown{onB}, api.ErrUnknown},
		{"hidden, and it isn't signed", hidden, []api.Grown{grew(a, 2, bent(a[2]))}, api.ErrUnknown},

		{"fewer keys", part, []api.Grown{grew(a, 1, a[2], a[3]), onB, onC}, api.ErrRoot},
		{"fewer keys, and the updates behind them", part, []api.Grown{grew(a, 1, a[1], a[2], a[3]), onB, onC}, api.ErrRoot},
		{"more keys", part, []api.Grown{grew(a, 3, a[3]), onB, onC}, api.ErrRoot},
		{"no keys of those that it has", part, []api.Grown{grew(a, 0, a[0]), onB, onC}, api.ErrRoot},
		{"keys of one that has none", part, []api.Grown{onA, grew(b, 1, b[1]), onC}, api.ErrRoot},
		{"keys in another order", part, []api.Grown{{Id: a[0].Id, Keys: []api.Hash{a[1].Key, a[0].Key}, More: a[2:4]}, onB, onC}, api.ErrRoot},
		{"another's keys", part, []api.Grown{onA, onB, {Id: c[0].Id, Keys: onA.Keys, More: c[2:3]}}, api.ErrRoot},
		{"its value as its key", part, []api.Grown{onA, onB, {Id: c[0].Id, Keys: []api.Hash{valueOf(c[0].Key)}, More: c[1:2]}}, api.ErrRoot},
		{"another history, and it isn't signed", part, []api.Grown{grew(a, 1, bent(a[1])), onB, onC}, api.ErrRoot},
		{"another history, then a hidden one", has.cut(a[0].Id).bytes(), []api.Grown{grew(a, 1, a[1]), onC}, api.ErrRoot},
		{"another history, then falling", part, []api.Grown{grew(c, 0, c[0]), onA}, api.ErrRoot},

		{"a bit of a signature turned", part, []api.Grown{grew(a, 2, bent(a[2]), a[3]), onB, onC}, api.ErrOwner},
		{"of the second one", part, []api.Grown{grew(a, 2, a[2], bent(a[3])), onB, onC}, api.ErrOwner},
		{"of the last one", part, []api.Grown{onA, onB, grew(c, 1, bent(c[1]))}, api.ErrOwner},
		{"another's", part, []api.Grown{onA, onB, grew(c, 1, a[1])}, api.ErrOwner},
		{"another's behind its own", part, []api.Grown{grew(a, 2, a[2], a[3], b[4]), onB, onC}, api.ErrOwner},
		{"another's ahead of its own", part, []api.Grown{grew(a, 2, c[2], a[3]), onB, onC}, api.ErrOwner},
		{"another's, and not the next one", part, []api.Grown{onA, onB, grew(c, 1, a[3])}, api.ErrOwner},
		{"as nobody's", part, []api.Grown{nobody}, api.ErrOwner},
		{"unsigned, and not the next one", part, []api.Grown{grew(a, 2, bent(a[3])), onB, onC}, api.ErrOwner},
		{"of noughts", part, []api.Grown{grew(a, 2, api.Update{}), onB, onC}, api.ErrOwner},
		{"unsigned, then the same identity", part, []api.Grown{grew(a, 2, bent(a[2])), onA}, api.ErrOwner},
		{"unsigned, then one without an update", part, []api.Grown{grew(a, 2, bent(a[2])), grew(b, 0)}, api.ErrOwner},
		{"unsigned, then falling", part, []api.Grown{grew(c, 1, bent(c[1])), onA}, api.ErrOwner},
		{"unsigned, then a hidden one", has.cut(a[0].Id).bytes(), []api.Grown{grew(a, 2, bent(a[2])), onC}, api.ErrOwner},
		{"unsigned, then another history", part, []api.Grown{grew(a, 2, bent(a[2])), grew(c, 0, c[0])}, api.ErrOwner},
		{"unsigned, then not the next one", part, []api.Grown{grew(a, 2, bent(a[2])), grew(c, 1, c[2])}, api.ErrOwner},
		{"unsigned, ahead of not the next one", part, []api.Grown{grew(a, 2, bent(a[2]), a[4])}, api.ErrOwner},

		{"not the next one", part, []api.Grown{grew(a, 2, a[3]), onB, onC}, api.ErrNext},
		{"one that came already", part, []api.Grown{grew(a, 2, a[1], a[2], a[3]), onB, onC}, api.ErrNext},
		{"not the next one, as the second", part, []api.Grown{grew(a, 2, a[2], a[4]), onB, onC}, api.ErrNext},
		{"the same one again", part, []api.Grown{grew(a, 2, a[2], a[2]), onB, onC}, api.ErrNext},
		{"two swapped", part, []api.Grown{grew(a, 2, a[3], a[2]), onB, onC}, api.ErrNext},
		{"the second one first", part, []api.Grown{onA, grew(b, 0, b[1]), onC}, api.ErrNext},
		{"not the next one, of the last", part, []api.Grown{onA, onB, grew(c, 1, c[2])}, api.ErrNext},
		{"not the next one, ahead of unsigned", part, []api.Grown{grew(a, 2, a[3], bent(a[2]))}, api.ErrNext},
		{"not the next one, ahead of another's", part, []api.Grown{grew(a, 2, a[3], b[0])}, api.ErrNext},
		{"not the next one, then unsigned", part, []api.Grown{grew(a, 2, a[3]), grew(b, 0, bent(b[0]))}, api.ErrNext},
		{"not the next one, then falling", part, []api.Grown{grew(c, 1, c[2]), onA}, api.ErrNext},
		{"not the next one, then another history", part, []api.Grown{grew(a, 2, a[3]), grew(c, 0, c[0])}, api.ErrNext},

		{"nothing", part, nil, api.ErrRoot},
		{"without the first", part, []api.Grown{onB, onC}, api.ErrRoot},
		{"without the last", part, []api.Grown{onA, onB}, api.ErrRoot},
		{"without the last update", part, []api.Grown{grew(a, 2, a[2]), onB, onC}, api.ErrRoot},
		{"with one update more", part, []api.Grown{grew(a, 2, a[2], a[3], a[4]), onB, onC}, api.ErrRoot},
		{"with another key", part, []api.Grown{grew(a, 2, a[2], again), onB, onC}, api.ErrRoot},
	} {
		t.Run(x.name, func(t *testing.T) {
			step := laid(x.part, x.grown...)
			checks(t, has.root(), next.root(), step, x.want)
			checks(t, turned(has.root(), 77), next.root(), step, api.ErrRoot) // the part's root is asked first
			grows(t, step, api.OK)
			if x.want != api.OK && x.want != api.ErrRoot {
				checks(t, has.root(), has.root(), step, x.want) // the root then is asked last
			}
			shows(t, has, next, step)
		})
	}
}

// noiseOf answers a hash of anything, the same one for the same number.
func noiseOf(n int64) api.Hash { return noise(rand.New(rand.NewSource(n))) }

// P13.2: the part's root, and the root then.
func TestCheckRoots(t *testing.T) {
	us := three()
	for _, has := range []all{{}, all{}.apply(us[0][0]), around(rand.New(rand.NewSource(1321)), 9).apply(us[0][0], us[1][0], us[2][0])} {
		batch := []api.Update{us[0][0], us[0][1], us[1][0]}
		next := has.apply(batch...)
		step := has.step(batch...)
		checks(t, has.root(), next.root(), step, api.OK)
		checks(t, next.root(), has.root(), step, api.ErrRoot)
		checks(t, has.root(), has.root(), step, api.ErrRoot)
		checks(t, next.root(), next.root(), step, api.ErrRoot)
		for bit := range 256 {
			checks(t, turned(has.root(), bit), next.root(), step, api.ErrRoot)
			checks(t, has.root(), turned(next.root(), bit), step, api.ErrRoot)
		}
		nothing := has.step()
		checks(t, has.root(), has.root(), nothing, api.OK)
		checks(t, has.root(), next.root(), nothing, api.ErrRoot)
		checks(t, next.root(), has.root(), nothing, api.ErrRoot)
	}
	// A hidden node is of any root; so it shows that nothing grew.
	for _, h := range []api.Hash{{}, noiseOf(2)} {
		checks(t, h, h, laid(hides(h).bytes()), api.OK)
		checks(t, h, turned(h, 0), laid(hides(h).bytes()), api.ErrRoot)
		checks(t, h, h, laid(hides(h).bytes(), grew(us[0], 0, us[0][0])), api.ErrUnknown)
	}
}

// P13.2: whole histories: a version behind MaxKeys makes no batch. How many updates a batch has isn't asked.
func TestCheckWhole(t *testing.T) {
	us := history(5, api.MaxKeys+1)
	for _, n := range []int{0, 1, 2, 30, 60, 61, 62, 63, 64} {
		for _, m := range []int{n + 1, n + 3, api.MaxKeys, api.MaxKeys + 1} {
			if m <= n || m > len(us) {
				continue
			}
			has, next := all{}.apply(us[:n]...), all{}.apply(us[:m]...)
			want := api.OK
			if m > api.MaxKeys {
				want = api.ErrForm
			}
			checks(t, has.root(), next.root(), laid(has.cut(us[0].Id).bytes(), grew(us, n, us[n:m]...)), want)
		}
	}
}

// P13.2: trees that no directory has: longer histories, values of no keys, and of nothing.
func TestCheckOtherTrees(t *testing.T) {
	us := history(6, api.MaxKeys)
	id := us[0].Id
	long := hashes(rand.New(rand.NewSource(1322)), 300)
	for _, x := range []struct {
		name  string
		value api.Hash
		keys  []api.Hash
		want  api.Errno
	}{
		{"no keys, and their value", valueOf(), nil, api.ErrRoot},
		{"no keys, and noughts", api.Hash{}, nil, api.ErrRoot},
		{"a key of noughts, and noughts", api.Hash{}, []api.Hash{{}}, api.ErrRoot},
		{"a key's value", valueOf(long[0]), long[:1], api.OK},
		{"a history of 63", valueOf(long[:63]...), long[:63], api.OK},
		{"of 64", valueOf(long[:64]...), long[:64], api.ErrNext},
		{"of 300", valueOf(long...), long, api.ErrNext},
		{"of 300, but one", valueOf(long...), long[1:], api.ErrRoot},
	} {
		t.Run(x.name, func(t *testing.T) {
			one := tree.Tree{}.Put(id, x.value)
			for _, tr := range []tree.Tree{one, one.Put(turned(id, 255), valueOf(long[7]))} {
				for i, u := range us {
					want := x.want
					if want == api.OK && i != len(x.keys) {
						want = api.ErrNext
					}
					next := tr.Put(id, valueOf(append(slices.Clone(x.keys), u.Key)...))
					checks(t, tr.Root(), next.Root(), laid(witness.Cut(tr, id).Bytes(), api.Grown{Id: id, Keys: x.keys, More: us[i : i+1]}), want)
				}
			}
		})
	}
}

// P13.2: identities that are unlike in one bit alone, and lie at every depth.
func TestCheckNear(t *testing.T) {
	us := history(7, 2)
	id := us[0].Id
	for bit := range 256 {
		if bit > 16 && bit < 240 && bit%16 != 0 {
			continue
		}
		near := all{turned(id, bit): {{1}}, turned(id, 255-bit): {{2}}}
		steps(t, built(t, 0, near), near, us...)
		has := near.apply(us[0])
		steps(t, built(t, 0, has), has, us...)
		other := grew(us, 1, us[1])
		other.Id = turned(id, bit)
		other.Keys = has[other.Id]
		next := has.apply(us[1])
		for _, g := range [][]api.Grown{{other}, {other, grew(us, 1, us[1])}, {grew(us, 1, us[1]), other}} {
			step := laid(has.cut(id, other.Id).bytes(), g...)
			want := api.ErrOwner
			if len(g) == 2 && g[0].Id == id && bytes.Compare(other.Id[:], id[:]) < 0 {
				want = api.ErrOrder
			}
			checks(t, has.root(), next.root(), step, want)
		}
	}
}

// P13.2, P13.4: with any bit turned a step doesn't lead where it led.
func TestCheckTurned(t *testing.T) {
	us := three()
	has := around(rand.New(rand.NewSource(1323)), 4).apply(us[0][0], us[2][0])
	batch := []api.Update{us[0][1], us[1][0]}
	next := has.apply(batch...)
	step := steps(t, built(t, 3, has), has, batch...)
	for i := range 8 * len(step) {
		c := slices.Clone(step)
		c[i/8] ^= 1 << (i % 8)
		want := checked(has.root(), next.root(), c)
		if want == api.OK {
			t.Errorf("the bit %d counts for nothing", i)
		}
		checks(t, has.root(), next.root(), c, want)
	}
}

// P13.4: each step of a directory leads from its root to the next one's, and to no other; and shows just how they differ, whatever is made of it.
func TestCheckAny(t *testing.T) {
	rnd := rand.New(rand.NewSource(1324))
	us := three()
	pool := slices.Concat(us[0], us[1], us[2], []api.Update{made(1, 1, api.Hash{9}), made(2, 2, api.Hash{9})})
	for range 20 {
		has := around(rnd, 8, us[0][0].Id, us[1][0].Id).apply(us[0][:rnd.Intn(3)]...).apply(us[1][:rnd.Intn(3)]...)
		d := built(t, 1, has)
		var batches [2][]api.Update
		for i := range batches {
			for range rnd.Intn(6) {
				batches[i] = append(batches[i], pool[rnd.Intn(len(pool))])
			}
			steps(t, d, has, batches[i]...)
		}
		a, b := has.apply(batches[0]...), has.apply(batches[1]...)
		step := has.step(batches[0]...)
		if a.root() != b.root() {
			checks(t, has.root(), b.root(), step, api.ErrRoot)
		}
		shows(t, has, b, step)
		_, grown := has.grow(batches[0]...)
		for range 20 {
			c := spoilt(rnd, grown, pool)
			s := laid(has.cut(idsOf(c)...).bytes(), c...)
			grows(t, s, api.OK)
			for _, to := range []all{has, a, b} {
				checks(t, has.root(), to.root(), s, checked(has.root(), to.root(), s))
				shows(t, has, to, s)
			}
		}
	}
}

// spoilt answers what grew with something in it changed.
func spoilt(rnd *rand.Rand, grown []api.Grown, pool []api.Update) []api.Grown {
	var c []api.Grown
	for _, g := range grown {
		c = append(c, api.Grown{Id: g.Id, Keys: slices.Clone(g.Keys), More: slices.Clone(g.More)})
	}
	u := pool[rnd.Intn(len(pool))]
	if len(c) == 0 {
		return []api.Grown{{Id: u.Id, More: []api.Update{u}}}
	}
	i := rnd.Intn(len(c))
	g := &c[i]
	switch rnd.Intn(9) {
	case 0:
		g.More = append(g.More, u)
	case 1:
		g.More = g.More[1:]
	case 2:
		g.More[rnd.Intn(len(g.More))] = u
	case 3:
		g.Keys = append(g.Keys, u.Key)
	case 4:
		g.Keys = g.Keys[:len(g.Keys)/2]
	case 5:
		c = slices.Delete(c, i, i+1)
	case 6:
		c = slices.Insert(c, i, api.Grown{Id: u.Id, More: []api.Update{u}})
	case 7:
		rnd.Shuffle(len(c), func(i, j int) { c[i], c[j] = c[j], c[i] })
	case 8:
		g.Id = turned(g.Id, rnd.Intn(256))
	}
	return c
}

// P13.4: what a step that leads from one directory to another leaves out is the same in both.
func TestCheckOthers(t *testing.T) {
	rnd := rand.New(rand.NewSource(1325))
	us := three()
	for range 30 {
		has := around(rnd, 9).apply(us[0][0])
		next := has.apply(us[0][1], us[1][0])
		step := has.step(us[0][1], us[1][0])
		checks(t, has.root(), next.root(), step, api.OK)
		for id, keys := range has {
			for _, other := range [][]api.Hash{nil, append(slices.Clone(keys), noise(rnd)), keys[:len(keys)-1], {noise(rnd)}} {
				for _, e := range []all{has, next} {
					c := maps.Clone(e)
					delete(c, id)
					if len(other) > 0 {
						c[id] = other
					}
					want := api.ErrRoot
					if maps.EqualFunc(c, next, slices.Equal) {
						want = api.OK
					}
					checks(t, has.root(), c.root(), step, want)
					checks(t, c.root(), next.root(), step, api.ErrRoot)
				}
			}
		}
		more := maps.Clone(next)
		more[noise(rnd)] = []api.Hash{{1}}
		checks(t, has.root(), more.root(), step, api.ErrRoot)
	}
}

// Whatever is asked ahead: the answers hang on the arguments alone.
func TestCheckAgain(t *testing.T) {
	us := three()
	var d dir.Dir
	e := d.Apply(us[0]...)
	step := audit.Step(d, us[0]...)
	for range 3 {
		checks(t, d.Root(), e.Root(), step, api.OK)
		checks(t, e.Root(), d.Root(), step, api.ErrRoot)
		checks(t, d.Root(), e.Root(), step[1:], checked(d.Root(), e.Root(), step[1:]))
	}
}
