package audit_test

import (
	"bytes"
	"encoding/hex"
	"maps"
	"math"
	"math/rand"
	"slices"
	"strings"
	"testing"

	"witan/api"
	"witan/audit"
	"witan/dir"
	"witan/hist"
)

// The chapter's examples.
func TestExamples(t *testing.T) {
	u := hist.Make(api.Hash{1}, 1, api.Hash{7})
	var d dir.Dir
	e := d.Apply(u)
	checks(t, api.Hash{}, e.Root(), audit.Step(d, u), api.OK)
	checks(t, api.Hash{}, turned(e.Root(), 255), audit.Step(d, u), api.ErrRoot)
	checks(t, turned(api.Hash{}, 0), e.Root(), audit.Step(d, u), api.ErrRoot)
	for _, b := range [][]api.Update{nil, {}, {u}, {u, u}, {{}}} {
		step := audit.Step(e, b...)
		if grown, err := audit.Grown(step); len(grown) != 0 || err != api.OK {
			t.Errorf("nothing: %d grew, %v", len(grown), err)
		}
		checks(t, e.Root(), e.Root(), step, api.OK)
		checks(t, e.Root(), e.Apply(b...).Root(), step, api.OK)
	}
}

// P13.1: bytes that this test has written out.
func TestStepWrittenOut(t *testing.T) {
	us := history(1, 3)
	u := us[2]
	id, sig := hex.EncodeToString(u.Id[:]), hex.EncodeToString(u.Sig[:])
	nought := strings.Repeat("00", 32)
	up := func(n string, u api.Update) string {
		return hex.EncodeToString(u.Id[:]) + n + hex.EncodeToString(u.Key[:]) + hex.EncodeToString(u.Sig[:])
	}
	value, root := valueOf(us[0].Key, us[1].Key), all{u.Id: {{}}}.root()
	for _, x := range []struct {
		name  string
		has   all
		batch []api.Update
		want  string
	}{
		{"nothing, of nothing", nil, nil, "0000000000000001" + "00" + "0000000000000000"},
		{"nothing", all{u.Id: {{}}}, us[2:], "0000000000000021" + "03" + hex.EncodeToString(root[:]) + "0000000000000000"},
		{"a first one", nil, us[:1], "0000000000000001" + "00" + "0000000000000001" +
			id + "0000000000000000" + "0000000000000090" + "0000000000000001" + up("0000000000000001", us[0])},
		{"two", nil, us[:2], "0000000000000001" + "00" + "0000000000000001" +
			id + "0000000000000000" + "0000000000000118" + "0000000000000002" + up("0000000000000001", us[0]) + up("0000000000000002", us[1])},
		{"a third one", all{u.Id: keysOf(us[:2])}, us, "0000000000000041" + "01" + id + hex.EncodeToString(value[:]) + "0000000000000001" +
			id + "0000000000000002" + "01010000" + nought[8:] + "01020000" + nought[8:] +
			"0000000000000090" + "0000000000000001" + id + "0000000000000003" + "01030000" + nought[8:] + sig},
	} {
		got := steps(t, built(t, 7, x.has), x.has, x.batch...)
		if hex.EncodeToString(got) != x.want {
			t.Errorf("%s: %x, not %s", x.name, got, x.want)
		}
	}
}

// P13.1: those of a batch that come are the ones that Apply adds, and no others.
func TestStep(t *testing.T) {
	u, v := history(1, 4), history(2, 2)
	fork := made(1, 1, api.Hash{0xf0})
	unsigned := u[0]
	unsigned.Sig[5] ^= 8
	stolen := v[0]
	stolen.Id = u[0].Id
	for _, x := range []struct {
		name  string
		batch []api.Update
		u, v  int // how many of each come to nothing
	}{
		{"none", nil, 0, 0},
		{"one", u[:1], 1, 0},
		{"all in order", u, 4, 0},
		{"more than MaxBatch", slices.Concat(u, v), 4, 2},
		{"the other first", slices.Concat(v, u), 4, 2},
		{"two in turn", []api.Update{v[0], u[0], v[1], u[1]}, 2, 2},
		{"the second one first", []api.Update{u[1], u[0]}, 1, 0},
		{"the second one first, and again", []api.Update{u[1], u[0], u[1]}, 2, 0},
		{"the second one alone", u[1:2], 0, 0},
		{"without the second one", []api.Update{u[0], u[2]}, 1, 0},
		{"one twice", []api.Update{u[0], u[0]}, 1, 0},
		{"one twice, and the other", []api.Update{v[0], v[0], u[0]}, 1, 1},
		{"two first ones", []api.Update{fork, u[0]}, 1, 0},
		{"two first ones, and the second one", []api.Update{u[0], fork, u[1]}, 2, 0},
		{"an unsigned one", []api.Update{unsigned}, 0, 0},
		{"an unsigned one ahead", []api.Update{unsigned, v[0], u[0]}, 1, 1},
		{"an unsigned one between", []api.Update{u[0], unsigned, u[1]}, 2, 0},
		{"another's", []api.Update{stolen, v[0]}, 0, 1},
		{"of noughts", []api.Update{{}, u[0], {}}, 1, 0},
	} {
		t.Run(x.name, func(t *testing.T) {
			var d dir.Dir
			step := steps(t, d, nil, x.batch...)
			grown, _ := audit.Grown(step)
			n := map[api.Hash]int{}
			for _, g := range grown {
				n[g.Id] = len(g.More)
			}
			if n[u[0].Id] != x.u || n[v[0].Id] != x.v || len(grown) != min(x.u, 1)+min(x.v, 1) {
				t.Errorf("%d grew: %v", len(grown), n)
			}
			has := all{}.apply(x.batch...)
			steps(t, d.Apply(x.batch...), has, x.batch...)
			steps(t, d.Apply(x.batch...), has, slices.Concat(u, v, x.batch)...)
		})
	}
}

// P13.1: an update with a bit turned, or with another version, doesn't come.
func TestStepTurned(t *testing.T) {
	us := history(3, 2)
	d, has := dir.Dir{}.Apply(us[0]), all{}.apply(us[0])
	want := has.step()
	over := func(u api.Update) {
		t.Helper()
		if !bytes.Equal(audit.Step(d, u), want) {
			t.Errorf("the version %d of %x with %x comes", u.Version, u.Id, u.Key)
		}
	}
	for bit := range 512 {
		u := us[1]
		u.Sig[bit/8] ^= 1 << (bit % 8)
		over(u)
		u = us[1]
		u.Key = turned(u.Key, bit%256)
		over(u)
		u = us[1]
		u.Id = turned(u.Id, bit%256)
		over(u)
	}
	for _, v := range []int{-1, 0, 1, 3, 64, 65, 2 + 1<<32, 2 + math.MinInt, math.MaxInt, math.MinInt} {
		u := us[1]
		u.Version = v
		over(u)
		over(made(3, v, us[1].Key))
	}
	steps(t, d, has, us[1])
}

// P13.1: whole histories, and the edge of MaxKeys.
func TestStepWhole(t *testing.T) {
	us := history(4, api.MaxKeys+1)
	for _, n := range []int{0, 1, 2, 31, 62, 63, 64} {
		has := all{}.apply(us[:n]...)
		d := built(t, n, has)
		steps(t, d, has, us[:n]...)
		steps(t, d, has, us[n])
		steps(t, d, has, us...)
		steps(t, d, has, us[n:min(n+2, len(us))]...)
	}
}

// P13.1: batches of all kinds, of directories with identities that lie near those that grow.
func TestStepAny(t *testing.T) {
	rnd := rand.New(rand.NewSource(1301))
	var us []api.Update
	var ids []api.Hash
	for owner := range byte(6) {
		for v := 1; v < 6; v++ {
			for key := range byte(2) {
				us = append(us, made(owner, v, api.Hash{owner, byte(v), key}))
			}
		}
		ids = append(ids, us[len(us)-1].Id)
	}
	for range 30 {
		has := around(rnd, 20, ids...)
		d := built(t, 0, has)
		for range 6 {
			batch := make([]api.Update, rnd.Intn(3*api.MaxBatch))
			for i := range batch {
				batch[i] = us[rnd.Intn(len(us))]
				if rnd.Intn(8) == 0 {
					batch[i].Sig[rnd.Intn(64)]++
				}
			}
			steps(t, d, has, batch...)
			d, has = d.Apply(batch...), has.apply(batch...)
		}
	}
}

// P13.1: many identities, in any order; they rise.
func TestStepMany(t *testing.T) {
	rnd := rand.New(rand.NewSource(1302))
	var us []api.Update
	for owner := range 150 {
		us = append(us, history(byte(owner), 1+owner%2)...)
	}
	has := all{}.apply(us[:70]...)
	for range 3 {
		rnd.Shuffle(len(us), func(i, j int) { us[i], us[j] = us[j], us[i] })
		steps(t, built(t, 2, has), has, us...)
		steps(t, dir.Dir{}, nil, us...)
	}
}

// P13.1: as many updates as may be handed in, of which the first right one alone comes; those that came already, too.
func TestStepLong(t *testing.T) {
	n := 1 << 20
	if testing.Short() {
		n = 1 << 12
	}
	us := history(6, 3)
	batch := make([]api.Update, n)
	for i := range batch {
		batch[i] = us[min(i%2, i/2)]
		if i%3 == 0 {
			batch[i] = api.Update{Version: 1}
			batch[i].Id[0], batch[i].Id[1], batch[i].Id[2] = byte(i), byte(i>>8), byte(i>>16)
			if i > 300 {
				batch[i].Version = 2
			}
		}
	}
	has := all{}.apply(us[0])
	if got := audit.Step(built(t, 1, has), batch...); !bytes.Equal(got, has.step(us[1])) {
		t.Errorf("the step %x", head(got))
	}
}

// P13.1, P13.2: a part of more than MaxBytes is laid, and refused.
func TestStepTooBig(t *testing.T) {
	if testing.Short() {
		t.Skip()
	}
	var us []api.Update
	has := all{}
	for owner := range 125 {
		u := made(byte(owner), 1, api.Hash{1})
		us = append(us, u)
		for bit := range 256 {
			has[turned(u.Id, bit)] = []api.Hash{{9}}
		}
	}
	d, err := dir.Build(1, has)
	if err != api.OK {
		t.Fatal(err)
	}
	got := audit.Step(d, us...)
	if !bytes.Equal(got, has.step(us...)) || len(got) < api.MaxBytes+125*(32+8+8+8+136) {
		t.Errorf("%d bytes that aren't these", len(got))
	}
	grows(t, got, api.ErrBig)
	checks(t, d.Root(), d.Apply(us...).Root(), got, api.ErrBig)
}

// P13.1: what is handed in stays as it is, and a step doesn't hang on it later, nor on other steps.
func TestStepHandedIn(t *testing.T) {
	us := slices.Concat(history(8, 3), history(7, 2))
	has := all{}.apply(us[:2]...)
	d := dir.Dir{}.Apply(us[:2]...)
	batch := slices.Clone(us)
	got := audit.Step(d, batch[:4]...)
	if !slices.Equal(batch, us) {
		t.Error("the batch changed")
	}
	want := has.step(us[:4]...)
	clear(batch)
	if !bytes.Equal(got, want) {
		t.Error("the step hangs on the batch")
	}
	clear(got[:cap(got)])
	if d.Epoch() != 1 || d.Root() != has.root() || !maps.EqualFunc(maps.Collect(d.All()), has, slices.Equal) {
		t.Error("the directory changed")
	}
	steps(t, d, has, us[:4]...)
	steps(t, d, has, us...)
}
