package repo_test

import (
	"testing"

	"coldstore/api"
	"coldstore/repo"
	"coldstore/retain"
)

// half is a world in which a restore has one of two cold packs, which froze again, and the other one is thawed: it can be done at once, but not if it is begun anew. The snapshot's name, and the files; and another snapshot's name, all of which is hot.
func half(t *testing.T) (w *world, name string, list []api.File, other string) {
	t.Helper()
	s := setup()
	s.Batch = 1
	w = made(t, s)
	list = files("a", "1111", "b", "2222")
	name = w.keep(list)
	w.freezes(2)
	w.tick(1)
	other = w.keep(files("c", "3333"))
	w.waits(name)
	w.tick(7)
	w.waits(name)
	w.tick(3)
	return w, name, list, other
}

func TestARestoreGoesOn(t *testing.T) {
	w, name, list, _ := half(t)
	// A lock, both of its own, the snapshot, the root, and a cold pack; then the root.
	w.asks(6, 1, func() { w.has(name, list) })
	// It is done: nothing but the snapshot is looked at.
	w.asks(4, 0, func() { w.has(name, list) })
	w.tick(50)
	w.asks(4, 0, func() { w.has(name, list) })
}

func TestARestoreGoesOnWhateverComesBetween(t *testing.T) {
	for i, c := range []struct {
		c repo.Cmd
		e api.Errno
	}{
		{repo.Cmd{Kind: lists}, api.OK},
		{repo.Cmd{Kind: checks}, api.OK},
		{repo.Cmd{Kind: backups, Host: "h", Files: files("d", "4444")}, api.OK},
		{repo.Cmd{Kind: backups, Host: "/"}, api.ErrPath},
		{repo.Cmd{Kind: 14}, api.ErrScript},
		{repo.Cmd{Kind: caches}, api.OK},
		{repo.Cmd{Kind: caches, Flag: true}, api.OK},
		{repo.Cmd{Kind: ticks}, api.OK},
		{repo.Cmd{Kind: faults}, api.OK},
		{repo.Cmd{Kind: powers, N: 50}, api.OK},
		// A restore of another one ends it only when that one's snapshot was loaded.
		{repo.Cmd{Kind: restores, Name: "snap/x"}, api.ErrNone},
		{repo.Cmd{Kind: restores}, api.ErrNone},
	} {
		w, name, list, _ := half(t)
		if a := w.Do(c.c); a.Code != c.e {
			t.Errorf("case %d: %v", i, a)
		}
		w.has(name, list)
	}
}

func TestARestoreOfSomebodyElseGoesOn(t *testing.T) {
	w, name, list, _ := half(t)
	w.answers(repo.Cmd{Kind: restores, Name: name, Who: 99, N: 9, Flag: true}, repo.Answer{Done: true, Files: list})
}

func TestARestoreIsBegunAnewBehindAnother(t *testing.T) {
	w, name, list, other := half(t)
	w.has(other, files("c", "3333"))
	w.waits(name)
	w.tick(3)
	w.has(name, list)
}

func TestARestoreIsBegunAnewBehindOnesThatTurnPacks(t *testing.T) {
	for _, kind := range []int{forgets, prunes, tiers, rebuilds} {
		c := repo.Cmd{Kind: kind, Who: 7, Keep: retain.Policy{Last: 9}, N: 100}
		w, name, _, _ := half(t)
		if a := w.Do(c); a.Code != api.OK {
			t.Errorf("kind %d: %v", kind, a)
		}
		w.waits(name)
		// Whatever became of it, if it had its lock: it has an error behind that, or the power goes.
		for n := range 5 {
			w, name, list, _ := half(t)
			w.failing(false, n)
			if a := w.Do(c); a.Code != api.ErrFault && n < 3 {
				t.Errorf("kind %d: %v", kind, a)
			}
			w.whole()
			if n < 2 {
				w.has(name, list)
			} else {
				w.answers(repo.Cmd{Kind: restores, Name: name, Who: 7}, repo.Answer{})
			}
			w, name, _, _ = half(t)
			w.answers(repo.Cmd{Kind: powers, N: int64(n)}, repo.Answer{})
			if a := w.Do(c); a.Code != api.ErrCrash && n < 3 {
				t.Errorf("kind %d: %v", kind, a)
			}
			w.whole()
			w.answers(repo.Cmd{Kind: restores, Name: name, Who: 7}, repo.Answer{})
		}
	}
}

func TestARestoreGoesOnBehindOnesThatAreLocked(t *testing.T) {
	for _, kind := range []int{forgets, prunes, tiers, rebuilds} {
		w, name, list, _ := half(t)
		// A fault lets a list's lock stand: it is the last one of the lock's 2, those that are listed, 2 of their bytes, and the lock's.
		w.failing(false, 5)
		w.ends(repo.Cmd{Kind: lists, Who: 5}, api.ErrFault)
		w.ends(repo.Cmd{Kind: kind, Who: 7}, api.ErrLocked)
		w.has(name, list)
	}
}

func TestARestoreIsBegunAnewBehindThePowersGoing(t *testing.T) {
	for _, c := range []repo.Cmd{{Kind: lists}, {Kind: checks}, {Kind: backups, Host: "h"}} {
		w, name, _, _ := half(t)
		w.answers(repo.Cmd{Kind: powers, N: 1}, repo.Answer{})
		w.ends(c, api.ErrCrash)
		w.waits(name)
	}
}

func TestARestoreThatIsForgotten(t *testing.T) {
	w, name, list, other := half(t)
	w.has(name, list)
	w.answers(repo.Cmd{Kind: forgets, Keep: retain.Policy{Last: 1}}, repo.Answer{Names: []string{name}})
	w.ends(repo.Cmd{Kind: restores, Name: name}, api.ErrNone)
	// What is gone from the store is told, even if it was had back.
	w.has(other, files("c", "3333"))
	w.hot.Drop(other)
	w.ends(repo.Cmd{Kind: restores, Name: other}, api.ErrNone)
	w.hot.Put(other, []byte("no snapshot"))
	w.ends(repo.Cmd{Kind: restores, Name: other}, api.ErrHash)
}

func TestARestoreIsByTheSetup(t *testing.T) {
	s := setup()
	s.Batch, s.Room, s.Wait = 0, 4, 0
	w := made(t, s)
	list := files("a", "1111", "b", "2222")
	name := w.keep(list)
	w.freezes(2)
	w.tick(1)
	w.asks(5, 0, func() { w.waits(name) })
	s.Batch = 9
	w = made(t, s)
	name = w.keep(list)
	w.freezes(2)
	w.tick(1)
	w.asks(5, 2, func() { w.waits(name) })
	// There is room for one of them alone.
	w.asks(5, 2, func() { w.ends(repo.Cmd{Kind: restores, Name: name}, api.ErrFull) })
	w.asks(5, 1, func() { w.ends(repo.Cmd{Kind: restores, Name: name}, api.ErrFull) })
}

func TestARestoreThatIsDoneThoughItsLockStands(t *testing.T) {
	w := made(t, setup())
	list := files("a", "1111")
	name := w.keep(list)
	// A fault lets its lock stand, behind the lock's 2, the snapshot, the tree, and both blobs.
	w.failing(false, 6)
	w.asks(7, 0, func() { w.ends(repo.Cmd{Kind: restores, Name: name}, api.ErrFault) })
	// It was done: its own lock is no hindrance, and nothing is loaded any more.
	w.asks(4, 0, func() { w.has(name, list) })
}
