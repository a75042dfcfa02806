package repo_test

import (
	"maps"
	"math/rand"
	"slices"
	"testing"

	"coldstore/api"
	"coldstore/backup"
	"coldstore/forget"
	"coldstore/repo"
	"coldstore/retain"
)

// kept is a world, and the files of each snapshot that it must have.
type kept struct {
	*world
	files map[string][]api.File
	ends  map[api.Errno]int
}

// listed is the snapshots that are listed.
func (k *kept) listed() []backup.Named {
	k.t.Helper()
	list, e := backup.List(k.hot)
	if e != api.OK {
		k.t.Fatal(e)
	}
	return list
}

// names is the names of snapshots, sorted.
func names(list []backup.Named) []string {
	var all []string
	for _, n := range list {
		all = append(all, n.Name)
	}
	slices.Sort(all)
	return all
}

// holds tells that what is listed must be what was kept, and not forgotten.
func (k *kept) holds() {
	k.t.Helper()
	if got, want := names(k.listed()), slices.Sorted(maps.Keys(k.files)); !slices.Equal(got, want) {
		k.t.Fatalf("%d are listed, not %d: %v, not %v", len(got), len(want), got, want)
	}
}

// armed does a command, while something is to come, and nothing behind it.
func (k *kept) armed(r *rand.Rand, c repo.Cmd) repo.Answer {
	k.t.Helper()
	switch r.Intn(4) {
	case 0:
		k.answers(repo.Cmd{Kind: powers, N: int64(r.Intn(40))}, repo.Answer{})
	case 1:
		k.failing(false, r.Intn(40))
	case 2:
		k.failing(true, r.Intn(6))
	}
	a := k.Do(c)
	k.whole()
	k.ends[a.Code]++
	return a
}

// save backs files up: it is listed behind it, if it has no error, and may be listed, if it has one.
func (k *kept) save(r *rand.Rand) {
	k.t.Helper()
	list, was := chosen(r), k.listed()
	a := k.armed(r, repo.Cmd{Kind: backups, Who: uint64(r.Intn(3)), Host: pick(r, "h", "i"), Name: pick(r, "", "t"), Files: list})
	if a.Code == api.OK {
		k.files[a.Names[0]] = list
		return
	}
	for _, n := range k.listed() {
		if !slices.Contains(was, n) && n.Snap.Time == k.Now() && a.Code != api.ErrLocked {
			k.files[n.Name] = list
		}
	}
	if n := len(k.files) - len(was); n > 1 {
		k.t.Fatalf("%d came", n)
	}
}

// forget forgets some: all that a policy doesn't keep, or some of their beginning, if it has an error.
func (k *kept) forget(r *rand.Rand) {
	k.t.Helper()
	host, p := pick(r, "", "h", "i"), retain.Policy{Last: r.Intn(5), Tag: pick(r, "", "t")}
	plan := forget.Plan(k.listed(), host, p)
	a := k.armed(r, repo.Cmd{Kind: forgets, Who: uint64(r.Intn(3)), Host: host, Keep: p})
	left := map[string]int{}
	for _, n := range k.listed() {
		left[n.Name] = 1
	}
	went := 0
	for went < len(plan) && left[plan[went].Name] == 0 {
		delete(k.files, plan[went].Name)
		went++
	}
	if a.Code == api.OK && went < len(plan) || a.Code != api.ErrCrash && len(a.Names) != went {
		k.t.Fatalf("%d of %d went: %v", went, len(plan), a)
	}
}

// turn does another command, which turns no snapshot.
func (k *kept) turn(r *rand.Rand) {
	k.t.Helper()
	was := k.listed()
	c := repo.Cmd{Kind: pick(r, prunes, prunes, tiers, tiers, checks, rebuilds, restores, lists, caches, jobs, faults), Who: uint64(r.Intn(3)), Flag: r.Intn(3) == 0}
	c.N = int64(r.Intn(101))
	switch c.Kind {
	case tiers:
		c.N = int64(r.Intn(6))
	case restores:
		c.Name = pick(r, append(names(was), "")...)
	case jobs:
		things, _ := k.ice.List("")
		c.Name = pick(r, append(things, "")...)
	}
	a := k.armed(r, c)
	switch {
	case c.Kind == checks && a.Code == api.OK && !a.Done:
		k.t.Fatal("something isn't there")
	case c.Kind == lists && a.Code == api.OK:
		slices.Sort(a.Names)
		if !slices.Equal(a.Names, names(was)) {
			k.t.Fatalf("%v", a)
		}
	case c.Kind == restores && a.Done && !sameFiles(a.Files, k.files[c.Name]):
		k.t.Fatalf("%v", a)
	}
}

// hasAll tells that each snapshot must be had back, behind as many steps as there are batches, and what is thawed is one.
func (k *kept) hasAll() {
	k.t.Helper()
	// Whosever lock there is is stale then, and whatever is thawed is frozen.
	k.tick(200)
	for name, want := range k.files {
		steps := 0
		for ; steps < 60; steps++ {
			a := k.Do(repo.Cmd{Kind: restores, Name: name})
			if a.Code != api.OK {
				k.t.Fatal(a)
			}
			if a.Done {
				if !sameFiles(a.Files, want) {
					k.t.Fatalf("%v, not %v", a.Files, want)
				}
				break
			}
			k.tick(3)
		}
		if steps == 60 {
			k.t.Fatal("it isn't done")
		}
	}
	k.answers(repo.Cmd{Kind: checks}, repo.Answer{Done: true})
}

func TestWhateverComes(t *testing.T) {
	ends, had, moved := map[api.Errno]int{}, 0, 0
	for seed := range int64(60) {
		r := rand.New(rand.NewSource(seed))
		s := setup()
		s.Cache, s.Target, s.Stale, s.Cut.Max, s.Cut.Bits = pick(r, 0, 50, 4000), pick(r, 1, 100, 500), 1+r.Int63n(60), 9, 2
		k := &kept{made(t, s), map[string][]api.File{}, ends}
		for step := range 60 {
			switch r.Intn(6) {
			case 0, 1:
				k.save(r)
			case 2:
				k.forget(r)
			case 3:
				k.tick(int64(r.Intn(9)))
			default:
				k.turn(r)
			}
			k.holds()
			if step%20 == 19 {
				moved += k.ice.Len()
				k.hasAll()
				had += len(k.files)
			}
		}
	}
	if ends[api.OK] < 1000 || ends[api.ErrFault] < 100 || ends[api.ErrCrash] < 100 || ends[api.ErrLocked] < 50 || had < 200 || moved < 100 {
		t.Errorf("%v, %d were had back, %d packs were moved", ends, had, moved)
	}
}

func TestAFullHotStoreLeavesTheMap(t *testing.T) {
	for quota := 100; quota < 2500; quota += 61 {
		s := setup()
		s.Hot = quota
		w := made(t, s)
		all := map[string][]api.File{}
		var wrong api.Errno
		for i := range 9 {
			list := files("a", "1111", "b", string(rune('a'+i)))
			a := w.Do(repo.Cmd{Kind: backups, Host: "h", Files: list})
			if a.Code != api.OK && a.Code != api.ErrQuota {
				t.Fatalf("%v", a)
			}
			if wrong = a.Code; a.Code == api.OK {
				all[a.Names[0]] = list
			}
			w.tick(1)
		}
		if wrong != api.ErrQuota {
			t.Errorf("quota %d: %d", quota, wrong)
		}
		k := &kept{w, all, nil}
		k.holds()
		// There may be no room for a lock.
		for name, want := range all {
			if a := w.Do(repo.Cmd{Kind: restores, Name: name}); a.Code != api.ErrQuota && (a.Code != api.OK || !sameFiles(a.Files, want)) {
				t.Errorf("quota %d: %v", quota, a)
			}
		}
	}
}
