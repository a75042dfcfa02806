package repo_test

import (
	"maps"
	"math"
	"math/rand"
	"slices"
	"testing"

	"coldstore/api"
	"coldstore/backup"
	"coldstore/cold"
	"coldstore/depot"
	"coldstore/forget"
	"coldstore/guard"
	"coldstore/lock"
	"coldstore/object"
	"coldstore/prune"
	"coldstore/repo"
	"coldstore/restore"
	"coldstore/retain"
	"coldstore/tier"
	"coldstore/verify"
)

// model does what the chapter says of a repository, with stores of its own.
type model struct {
	s        repo.Setup
	now      int64
	hot      *object.Store
	ice      *cold.Store
	left     int    // how many operations there may be ahead of the power's going; below 0: any number
	hotFails []bool // faults to come
	iceFails []bool
	d        *depot.Depot
	r        *restore.Restore
	name     string
}

// modelOf is a model of a new repository.
func modelOf(t *testing.T, s repo.Setup) *model {
	t.Helper()
	hot, e := object.New(s.Hot)
	ice, f := cold.New(s.Cold, s.Jobs, s.Life, s.Least)
	if e != api.OK || f != api.OK {
		t.Fatal(e, f)
	}
	return &model{s: s, hot: hot, ice: ice, left: -1}
}

// behind is what is left of faults behind so many operations.
func behind(fails []bool, ops int) []bool {
	return fails[min(len(fails), ops):]
}

// opened opens the depot, if none is open.
func (m *model) opened() api.Errno {
	if m.d != nil {
		return api.OK
	}
	d, e := depot.Open(m.hot, m.ice, m.s.Cache)
	if e == api.OK {
		_, e = tier.Recover(d, m.now)
	}
	if e == api.OK {
		m.d = d
	}
	return e
}

// work does what is done with a lock.
func (m *model) work(c repo.Cmd) (a repo.Answer, e api.Errno) {
	switch c.Kind {
	case backups:
		var n backup.Named
		n, e = backup.Run(m.d, c.Files, backup.Job{Time: m.now, Host: c.Host, Tag: c.Name, Cut: m.s.Cut, Target: m.s.Target})
		a.Names = []string{n.Name}
	case lists:
		var list []backup.Named
		list, e = backup.List(m.hot)
		for _, n := range list {
			a.Names = append(a.Names, n.Name)
		}
	case restores:
		kept, wrong := backup.Load(m.hot, c.Name)
		if wrong != api.OK {
			return a, wrong
		}
		if m.r == nil || m.name != c.Name {
			m.r, m.name = restore.New(m.d, kept.Root, m.s.Room), c.Name
		}
		a.Done, e = m.r.Step(m.now, m.s.Batch, m.s.Wait)
		a.Files = m.r.Files()
	case forgets:
		a.Names, e = forget.Run(m.hot, c.Host, c.Keep)
	case prunes:
		var r prune.Report
		r, e = prune.Run(m.d, m.now, int(c.N), m.s.Target, c.Flag)
		a.N = r.Dropped
	case tiers:
		a.N, e = tier.Run(m.d, c.N, m.now)
	case checks:
		var r verify.Report
		r, e = verify.Check(m.d, m.now)
		a.Done = verify.Good(r)
	case rebuilds:
		a.N, e = verify.Mend(m.d)
	}
	return a, e
}

// locked does a command by somebody.
func (m *model) locked(c repo.Cmd) repo.Answer {
	if e := m.opened(); e != api.OK {
		return repo.Answer{Code: e}
	}
	alone := c.Kind == forgets || c.Kind == prunes || c.Kind == tiers || c.Kind == checks || c.Kind == rebuilds
	if e := lock.Take(m.hot, c.Who, alone, m.now, m.s.Stale); e != api.OK {
		return repo.Answer{Code: e}
	}
	if alone && c.Kind != checks {
		m.r = nil
	}
	a, e := m.work(c)
	f := lock.Free(m.hot, c.Who)
	if e == api.OK && f != api.ErrNone {
		e = f
	}
	if e == api.OK {
		return a
	}
	if c.Kind == forgets {
		return repo.Answer{Code: e, Names: a.Names}
	}
	return repo.Answer{Code: e}
}

// Do is the answer to a command.
func (m *model) Do(c repo.Cmd) (a repo.Answer) {
	switch c.Kind {
	case backups, lists, restores, forgets, prunes, tiers, checks, rebuilds:
		// Armed anew ahead of each command, of which no other has operations.
		fuse := guard.NewFuse(m.left)
		m.hot.Arm(fuse, m.hotFails)
		m.ice.Arm(fuse, m.iceFails)
		hot, ice := m.hot.Ops(), m.ice.Ops()
		crashed := fuse.Catch(func() { a = m.locked(c) })
		hot, ice = m.hot.Ops()-hot, m.ice.Ops()-ice
		m.hotFails, m.iceFails = behind(m.hotFails, hot), behind(m.iceFails, ice)
		if m.left >= 0 {
			m.left -= hot + ice
		}
		if crashed {
			m.d, m.r, m.left, m.hotFails, m.iceFails = nil, nil, -1, nil, nil
			a = repo.Answer{Code: api.ErrCrash}
		}
	case ticks:
		if c.N > 0 {
			m.now = int64(min(uint64(m.now)+uint64(c.N), api.MaxTime))
		}
	case faults:
		if c.Flag {
			m.iceFails = slices.Clone(c.Bits)
		} else {
			m.hotFails = slices.Clone(c.Bits)
		}
	case powers:
		m.left, m.hotFails, m.iceFails = int(max(-1, min(c.N, 1<<20))), nil, nil
	case caches:
		if m.d != nil && c.Flag {
			m.d.Cache().Wipe()
		} else if m.d != nil {
			for _, id := range slices.Collect(m.d.Cache().All()) {
				m.d.Cache().Spoil(id, int(c.N))
			}
		}
	case jobs:
		a.Done = m.ice.Fail(c.Name, m.now)
	default:
		a.Code = api.ErrScript
	}
	return a
}

// chosen is right files, of which many come again and again; few are wrong.
func chosen(r *rand.Rand) []api.File {
	var list []api.File
	for _, p := range []string{"a", "b/a", "b/b/a", "c"} {
		f := api.File{Path: p, Data: make([]byte, r.Intn(40))}
		for i := range f.Data {
			f.Data[i] = '0' + byte(r.Intn(3))
		}
		if r.Intn(5) > 0 {
			list = append(list, f)
		}
	}
	if r.Intn(40) == 0 {
		list = append(list, api.File{Path: "a"})
	}
	return list
}

// someBits is some faults.
func someBits(r *rand.Rand) []bool {
	bits := make([]bool, r.Intn(30))
	for i := range bits {
		bits[i] = r.Intn(20) == 0
	}
	return bits
}

// pick is one of some things.
func pick[T any](r *rand.Rand, list ...T) T {
	return list[r.Intn(len(list))]
}

// someSetup is a setup, as a seed chooses it.
func someSetup(r *rand.Rand) repo.Setup {
	s := setup()
	s.Cache = pick(r, 0, 100, 5000)
	s.Room = pick(r, 1<<20, 1<<20, 30)
	s.Jobs = 1 + r.Intn(4)
	s.Batch = r.Intn(5)
	s.Target = pick(r, 1, 60, 200, 1000)
	s.Life = 1 + r.Int63n(9)
	s.Least = r.Int63n(9)
	s.Wait = r.Int63n(4)
	s.Stale = 1 + r.Int63n(9)
	s.Cut.Min, s.Cut.Max, s.Cut.Bits = 4, 4+r.Intn(9), 2
	if r.Intn(9) == 0 {
		s.Hot, s.Cold = 2000, 300
	}
	return s
}

// someCmd is a command, of names of which some are of snapshots, and of cold packs.
func someCmd(r *rand.Rand, names []string) repo.Cmd {
	kinds := []int{backups, backups, lists, restores, restores, restores, restores, forgets, prunes, tiers, checks, rebuilds, ticks, ticks, caches, jobs, faults, powers}
	c := repo.Cmd{Kind: pick(r, kinds...), Who: pick[uint64](r, 0, 0, 0, 0, 1, 1<<64-1), Flag: r.Intn(3) == 0}
	if r.Intn(99) == 0 {
		c.Kind = pick(r, 0, -1, 14, math.MaxInt)
	}
	c.Host, c.Name = pick(r, "h", "h", "i", ""), pick(r, "", "", "t")
	switch c.Kind {
	case backups:
		c.Files = chosen(r)
	case restores, jobs:
		c.Name = pick(r, append(names, "snap/x")...)
	case forgets:
		c.Keep = retain.Policy{Last: r.Intn(4), Within: r.Int63n(9), Tag: c.Name, Days: r.Intn(3), Day: r.Int63n(9)}
	case prunes:
		c.N = pick[int64](r, -1, 0, 20, 50, 100, math.MaxInt64)
	case tiers:
		c.N = pick[int64](r, -1, 0, 1, 3, 9)
	case ticks:
		c.N = pick[int64](r, -5, 0, 1, 1, 2, 3, 5, 8)
	case caches:
		c.N = r.Int63() - r.Int63()
	case faults:
		c.Bits = someBits(r)
	case powers:
		c.N = pick[int64](r, -1, -1, math.MinInt64, 0, 3, 9, 20, int64(r.Intn(60)), math.MaxInt64)
	}
	return c
}

// alike tells that a repository and its model must be alike.
func alike(t *testing.T, w *world, m *model) {
	t.Helper()
	if w.Now() != m.now || w.hot.Ops() != m.hot.Ops() || w.ice.Ops() != m.ice.Ops() || w.ice.Lost() != m.ice.Lost() {
		t.Fatalf("at %d, not %d: %d operations, not %d, and %d, not %d", w.Now(), m.now, w.hot.Ops(), m.hot.Ops(), w.ice.Ops(), m.ice.Ops())
	}
	if !maps.Equal(maps.Collect(w.hot.All()), maps.Collect(m.hot.All())) || !maps.Equal(maps.Collect(w.ice.All()), maps.Collect(m.ice.All())) {
		t.Fatal("the stores have other things")
	}
	for name := range m.ice.All() {
		if w.ice.State(name, m.now) != m.ice.State(name, m.now) || w.ice.Left(name, m.now) != m.ice.Left(name, m.now) {
			t.Fatalf("%s is another", name)
		}
	}
}

func TestManyCommands(t *testing.T) {
	ends := map[[2]int]int{}
	done := 0
	for seed := range int64(150) {
		r := rand.New(rand.NewSource(seed))
		s := someSetup(r)
		w, m := made(t, s), modelOf(t, s)
		for range 150 {
			names := append(slices.Collect(maps.Keys(maps.Collect(m.ice.All()))), "")
			for name := range m.hot.All() {
				if name[0] == 's' {
					names = append(names, name)
				}
			}
			slices.Sort(names)
			c := someCmd(r, names)
			want := m.Do(c)
			if got := w.Do(c); !equal(got, want) {
				t.Fatalf("seed %d, %+v: %v, not %v", seed, c, got, want)
			}
			alike(t, w, m)
			ends[[2]int{c.Kind, int(want.Code)}]++
			if c.Kind == restores && want.Done {
				done++
			}
		}
	}
	for kind := backups; kind <= rebuilds; kind++ {
		for _, code := range []api.Errno{api.OK, api.ErrFault, api.ErrLocked, api.ErrCrash} {
			if n := ends[[2]int{kind, int(code)}]; n < 20 {
				t.Errorf("kind %d ended %d times by %d", kind, n, code)
			}
		}
	}
	if done < 300 || ends[[2]int{restores, int(api.ErrFull)}] == 0 || ends[[2]int{backups, int(api.ErrQuota)}] == 0 {
		t.Errorf("%d were done, %v", done, ends)
	}
}
