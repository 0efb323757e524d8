package audit_test

import (
	"math/rand"
	"slices"
	"testing"

	"witan/api"
	"witan/audit"
	"witan/dir"
)

// way answers the steps of a directory by one batch behind the other, and the roots behind them.
func way(d dir.Dir, batches ...[]api.Update) ([][]byte, []api.Hash) {
	var steps [][]byte
	var roots []api.Hash
	for _, b := range batches {
		steps = append(steps, audit.Step(d, b...))
		d = d.Apply(b...)
		roots = append(roots, d.Root())
	}
	return steps, roots
}

// chains asks whether steps lead from each root to the next.
func chains(t *testing.T, root api.Hash, steps [][]byte, roots []api.Hash, want api.Errno) {
	t.Helper()
	s, r := slices.Clone(steps), slices.Clone(roots)
	for i := range s {
		s[i] = slices.Clone(s[i])
	}
	if err := audit.Chain(root, steps, roots); err != want {
		t.Errorf("Chain of %d steps, %d roots: %v, not %v", len(steps), len(roots), err, want)
	}
	if !slices.Equal(r, roots) || !slices.EqualFunc(s, steps, slices.Equal) {
		t.Error("what was handed in changed")
	}
}

// P13.3: not as many.
func TestChainArg(t *testing.T) {
	us := history(1, 4)
	steps, roots := way(dir.Dir{}, us[:1], us[1:2], us[2:3], us[3:])
	for n := range 5 {
		for m := range 5 {
			want := api.ErrArg
			if n == m {
				want = api.OK
			}
			chains(t, api.Hash{}, steps[:n], roots[:m], want)
			if n == m && n > 0 {
				want = api.ErrRoot
			}
			chains(t, api.Hash{1}, steps[:n], roots[:m], want)
		}
	}
	chains(t, api.Hash{}, nil, nil, api.OK)
	chains(t, api.Hash{5}, [][]byte{}, []api.Hash{}, api.OK)
	chains(t, api.Hash{}, [][]byte{nil}, nil, api.ErrArg)
	chains(t, api.Hash{}, nil, []api.Hash{{}}, api.ErrArg)
	chains(t, api.Hash{}, [][]byte{nil}, []api.Hash{{}}, api.ErrShort)
	chains(t, api.Hash{}, [][]byte{{9}, {9}}, roots[:1], api.ErrArg) // ahead of what the steps are
}

// P13.3, P13.4: a directory's steps from the beginning on, and from each epoch to each.
func TestChain(t *testing.T) {
	rnd := rand.New(rand.NewSource(1330))
	var us []api.Update
	for owner := range byte(5) {
		us = append(us, history(owner, 8)...)
	}
	var batches [][]api.Update
	for range 40 {
		var b []api.Update
		for range rnd.Intn(api.MaxBatch + 1) {
			b = append(b, us[rnd.Intn(len(us))])
		}
		batches = append(batches, b)
	}
	steps, roots := way(dir.Dir{}, batches...)
	chains(t, api.Hash{}, steps, roots, api.OK)
	all := append([]api.Hash{{}}, roots...)
	for i := range all {
		j := i + rnd.Intn(len(all)-i)
		chains(t, all[i], steps[i:j], all[i+1:j+1], api.OK)
		for k, root := range all {
			if i < j && root != all[i] {
				chains(t, root, steps[i:j], all[i+1:j+1], api.ErrRoot)
			}
			if k > 0 && root != all[k-1] {
				chains(t, all[k-1], [][]byte{steps[k-1], steps[k-1]}, []api.Hash{root, root}, api.ErrRoot)
			}
		}
	}
}

// P13.3: a fault at each place: the first one is told.
func TestChainFirst(t *testing.T) {
	us := history(2, 12)
	var batches [][]api.Update
	for _, u := range us {
		batches = append(batches, []api.Update{u})
	}
	steps, roots := way(dir.Dir{}, batches...)
	cut := slices.Clone(roots)
	for i := range cut {
		cut[i] = turned(roots[i], i)
	}
	for i := range steps {
		for want, bad := range map[api.Errno][]byte{
			api.ErrShort: nil,
			api.ErrTrail: append(slices.Clone(steps[i]), 0),
			api.ErrForm:  laid([]byte{4}),
			api.ErrOwner: turnedLast(steps[i]),
		} {
			s := slices.Clone(steps)
			s[i] = bad
			chains(t, api.Hash{}, s, roots, want)
			for j := i + 1; j < len(s); j++ {
				s[j] = []byte{1}
				if j%3 == 0 {
					s[j] = append(slices.Clone(steps[j]), 0)
				}
			}
			chains(t, api.Hash{}, s, roots, want)
			r := slices.Concat(roots[:i+1], cut[i+1:])
			chains(t, api.Hash{}, s, r, want)
			if i > 0 {
				r[i-1] = cut[i-1]
				chains(t, api.Hash{}, s, r, api.ErrRoot)
			}
		}
		r := slices.Clone(roots)
		r[i] = cut[i]
		chains(t, api.Hash{}, steps, r, api.ErrRoot)
		chains(t, api.Hash{}, slices.Delete(slices.Clone(steps), i, i+1), slices.Delete(r, i, i+1), map[bool]api.Errno{true: api.OK, false: api.ErrRoot}[i == len(steps)-1])
		if i > 0 {
			s := slices.Clone(steps)
			s[i], s[i-1] = s[i-1], s[i]
			chains(t, api.Hash{}, s, roots, api.ErrRoot)
		}
	}
}

// turnedLast answers a step with its last bit, of a signature, turned.
func turnedLast(step []byte) []byte {
	c := slices.Clone(step)
	c[len(c)-1] ^= 1
	return c
}

// P13.3: many steps by which nothing grows.
func TestChainMany(t *testing.T) {
	n := 1 << 17
	if testing.Short() {
		n = 1 << 10
	}
	steps, roots := make([][]byte, n), make([]api.Hash, n)
	for i := range steps {
		steps[i] = laid([]byte{0})
	}
	if err := audit.Chain(api.Hash{}, steps, roots); err != api.OK {
		t.Error(err)
	}
	roots[n-1] = api.Hash{31: 1}
	if err := audit.Chain(api.Hash{}, steps, roots); err != api.ErrRoot {
		t.Error(err)
	}
}

// FuzzCheck holds what is made of bytes against the chapter's words.
func FuzzCheck(f *testing.F) {
	us := three()
	has := around(rand.New(rand.NewSource(1340)), 4, us[0][0].Id).apply(us[0][0], us[2][0])
	next := has.apply(us[0][1], us[0][2], us[1][0])
	f.Add(has.step(us[0][1], us[0][2], us[1][0]))
	f.Add(has.step(us[0][1]))
	f.Add(has.step())
	f.Add(laid([]byte{0}))
	f.Add(laid(has.cut(us[1][0].Id).bytes(), grew(us[0], 1, us[0][1]), grew(us[1], 0)))
	f.Add(laid(has.cut(us[2][0].Id).bytes(), grew(us[2], 1, us[2][2], bent(us[2][1]))))
	f.Add([]byte{})
	f.Fuzz(func(t *testing.T, step []byte) {
		_, _, err := told(step)
		grows(t, step, err)
		for _, to := range []all{has, next, has.apply(us[0][1])} {
			checks(t, has.root(), to.root(), step, checked(has.root(), to.root(), step))
			shows(t, has, to, step)
		}
		if s, _, err := told(step); err == api.OK {
			checks(t, s.root(), next.root(), step, checked(s.root(), next.root(), step))
			checks(t, s.root(), s.root(), step, checked(s.root(), s.root(), step))
		}
	})
}
