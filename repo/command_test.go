package repo_test

import (
	"fmt"
	"slices"
	"testing"

	"coldstore/api"
	"coldstore/depot"
	"coldstore/guard"
	"coldstore/lock"
	"coldstore/repo"
	"coldstore/retain"
	"coldstore/tier"
)

// holders is whose locks there are at a world's time.
func (w *world) holders() []uint64 {
	w.t.Helper()
	list, e := lock.Holders(w.hot, w.Now(), 100)
	if e != api.OK {
		w.t.Fatal(e)
	}
	return list
}

func TestADepotIsOpenedOnce(t *testing.T) {
	w := made(t, setup())
	// The index, what was begun; then for each: the locks, its own, what is done, and its own again.
	w.asks(2+4, 0, func() { w.lists() })
	w.asks(4, 0, func() { w.lists() })
	w.asks(3, 0, func() { w.ends(repo.Cmd{Kind: backups, Files: files("/", "")}, api.ErrPath) })
	w.asks(4, 0, func() { w.lists() })
}

func TestADepotThatCantBeOpened(t *testing.T) {
	for n := range 2 {
		w := made(t, setup())
		w.failing(false, n)
		w.asks(n+1, 0, func() { w.ends(repo.Cmd{Kind: lists}, api.ErrFault) })
		w.asks(2+4, 0, func() { w.lists() })
	}
	w := made(t, setup())
	w.hot.Put("index", []byte("no index"))
	for kind := backups; kind <= rebuilds; kind++ {
		w.asks(1, 0, func() {
			if a := w.Do(repo.Cmd{Kind: kind}); a.Code == api.OK || !equal(a, repo.Answer{Code: a.Code}) {
				t.Errorf("kind %d: %v", kind, a)
			}
		})
	}
	w.hot.Drop("index")
	w.lists()
}

// begun is a world in which a move was begun by 1, and the power went behind so many of its operations; and the snapshot's name.
func begun(t *testing.T, n int64) (*world, string) {
	t.Helper()
	w := made(t, setup())
	name := w.keep(files("a", "1234"))
	w.tick(1)
	// Ahead of it are the lock's 2, what was begun, 2 of what is listed, 1 of its tree, and both packs.
	w.answers(repo.Cmd{Kind: powers, N: 2 + 1 + 2 + 1 + 2 + n}, repo.Answer{})
	w.ends(repo.Cmd{Kind: tiers, Who: 1}, api.ErrCrash)
	if notes, _ := w.hot.List("move/"); len(notes) != 1 {
		t.Fatal("nothing was begun")
	}
	return w, name
}

func TestWhatWasBegunIsEnded(t *testing.T) {
	for n := range int64(5) {
		w, name := begun(t, 1+n)
		w.tick(1)
		// It is ended ahead of the lock, which somebody else has.
		w.ends(repo.Cmd{Kind: lists, Who: 2}, api.ErrLocked)
		if notes, _ := w.hot.List("move/"); len(notes) != 0 || w.ice.Len() != 1 {
			t.Errorf("behind %d it isn't ended", n)
		}
		// It was moved at the time of what ended it, unless it was moved ahead.
		if left := w.ice.Left(first(w.ice.List("pack/")), 2); left != 10 && n < 3 || left != 9 && n >= 3 {
			t.Errorf("behind %d: young for %d", n, left)
		}
		w.ends(repo.Cmd{Kind: restores, Who: 2, Name: name}, api.ErrLocked)
		w.answers(repo.Cmd{Kind: lists, Who: 1}, repo.Answer{Names: []string{name}})
		w.waits(name)
		w.tick(3)
		w.has(name, files("a", "1234"))
	}
}

func TestWhatWasBegunThatCantBeEnded(t *testing.T) {
	w, name := begun(t, 4)
	w.failing(true, 0)
	w.asks(3, 1, func() { w.ends(repo.Cmd{Kind: lists, Who: 1}, api.ErrFault) })
	// None is open: the index, the notes, both packs, the index that holds, the hot pack, and the note; then a list.
	w.asks(3+3+5, 1, func() { w.answers(repo.Cmd{Kind: lists, Who: 1}, repo.Answer{Names: []string{name}}) })
	w.asks(5, 0, func() { w.lists(name) })
}

// first is the first one of a list, "" if there is none.
func first(list []string, e api.Errno) string {
	return append(list, "")[0]
}

// command is a command of a kind by somebody that has no error by itself.
func command(kind int, who uint64, name string) repo.Cmd {
	if kind == backups {
		name = "tag"
	}
	return repo.Cmd{Kind: kind, Who: who, Name: name, Host: "h", Keep: retain.Policy{Last: 1}}
}

func TestLocksOfOthers(t *testing.T) {
	for kind := backups; kind <= rebuilds; kind++ {
		for _, alone := range []bool{false, true} {
			w := made(t, setup())
			name := w.keep(files("a", "1234"))
			w.tick(20)
			if e := lock.Take(w.hot, 9, alone, 20, 100); e != api.OK {
				t.Fatal(e)
			}
			hot, ice := w.things()
			c := command(kind, 5, name)
			locked := alone || kind >= forgets
			for _, now := range []int64{20, 119} {
				if w.tick(now - w.Now()); locked {
					w.asks(2, 0, func() { w.ends(c, api.ErrLocked) })
					if hots, ices := w.things(); len(hots) != len(hot) || len(ices) != len(ice) {
						t.Error("something was done")
					}
				} else if a := w.Do(c); a.Code != api.OK {
					t.Errorf("kind %d: %v", kind, a)
				}
				if !slices.Equal(w.holders(), []uint64{9}) {
					t.Errorf("kind %d: %v have one", kind, w.holders())
				}
			}
			// One's own is no hindrance, though it is let go behind it.
			if a := w.Do(command(kind, 9, name)); a.Code != api.OK || len(w.holders()) != 0 {
				t.Errorf("kind %d: %v, %v have one", kind, a, w.holders())
			}
			lock.Take(w.hot, 9, alone, 20, 1000)
			w.tick(1)
			if a := w.Do(c); a.Code != api.OK || len(w.holders()) != 0 {
				t.Errorf("kind %d, a stale one: %v, %v have one", kind, a, w.holders())
			}
		}
	}
}

func TestLocksBesideOneThatIsntAlone(t *testing.T) {
	w := made(t, setup())
	// Somebody's backup ends ahead of letting its lock go; nobody is alone beside it.
	w.lists()
	w.answers(repo.Cmd{Kind: powers, N: 3}, repo.Answer{})
	w.ends(repo.Cmd{Kind: lists, Who: 3}, api.ErrCrash)
	w.lists()
	w.ends(repo.Cmd{Kind: checks}, api.ErrLocked)
	w.answers(repo.Cmd{Kind: checks, Who: 3}, repo.Answer{Done: true})
	w.answers(repo.Cmd{Kind: checks}, repo.Answer{Done: true})
	// Somebody's forget does so, too; nobody is beside it.
	w.answers(repo.Cmd{Kind: powers, N: 3}, repo.Answer{})
	w.ends(repo.Cmd{Kind: forgets, Who: 1<<64 - 1}, api.ErrCrash)
	for kind := backups; kind <= rebuilds; kind++ {
		w.ends(repo.Cmd{Kind: kind, Who: 3}, api.ErrLocked)
	}
	w.tick(99)
	w.ends(repo.Cmd{Kind: lists}, api.ErrLocked)
	w.tick(1)
	w.lists()
}

func TestTheLockIsLetGoBehindAnError(t *testing.T) {
	w := made(t, setup())
	for i, c := range []struct {
		c repo.Cmd
		e api.Errno
	}{
		{repo.Cmd{Kind: backups, Files: files("/", "")}, api.ErrPath},
		{repo.Cmd{Kind: backups, Files: files("b", "", "a", "")}, api.ErrOrder},
		{repo.Cmd{Kind: restores, Name: "snap/x"}, api.ErrNone},
		{repo.Cmd{Kind: restores}, api.ErrNone},
		{repo.Cmd{Kind: restores, Name: "x"}, api.ErrHash},
		{repo.Cmd{Kind: backups, Host: "no host"}, api.ErrPath},
	} {
		w.hot.Put("x", nil)
		w.ends(c.c, c.e)
		if list, _ := w.hot.List("lock/"); len(list) != 0 {
			t.Errorf("case %d: %v have it", i, list)
		}
	}
}

// forgetting is a world whose snapshots of the host h but the last one are to go: their names, in order.
func forgetting(t *testing.T) (*world, repo.Cmd, []string) {
	t.Helper()
	w := made(t, setup())
	var names []string
	for i := range 4 {
		names = append(names, w.keep(files("a", fmt.Sprint(i))))
		w.tick(1)
	}
	return w, repo.Cmd{Kind: forgets, Host: "h", Keep: retain.Policy{Last: 1}, Who: 4}, names
}

func TestAForgetTellsNamesBesideItsError(t *testing.T) {
	// The locks, its own, those that are listed, and their bytes; 3 of them go; and its own goes.
	for n := range 2 + 5 + 3 + 1 {
		w, c, names := forgetting(t)
		w.failing(false, n)
		went := min(max(n-2-5, 0), 3)
		w.answers(c, repo.Answer{Code: api.ErrFault, Names: names[:went]})
		w.answers(repo.Cmd{Kind: lists, Who: 4}, repo.Answer{Names: names[went:]})
		// Without a fault the others go, whether its own lock is there yet or not.
		w.answers(c, repo.Answer{Names: names[went:3]})
		w.lists(names[3])
		if len(w.holders()) != 0 {
			t.Errorf("fault %d: %v", n, w.holders())
		}
	}
	w, c, names := forgetting(t)
	w.asks(2+5+3+1, 0, func() { w.answers(c, repo.Answer{Names: names[:3]}) })
}

func TestAFaultBeforeAndWhileTheLockIsLetGo(t *testing.T) {
	w, c, names := forgetting(t)
	// A Drop of a snapshot fails, and so does the lock's: the first one's error is told.
	bits := make([]bool, 2+5+2)
	w.answers(repo.Cmd{Kind: faults, Bits: append(bits[:2+5+1], true, true)}, repo.Answer{})
	w.asks(2+5+2+1, 0, func() { w.answers(c, repo.Answer{Code: api.ErrFault, Names: names[:1]}) })
	if !slices.Equal(w.holders(), []uint64{4}) {
		t.Errorf("%v", w.holders())
	}
	// The error of what was done is the one that is told.
	w.answers(repo.Cmd{Kind: faults, Bits: []bool{false, false, false, true}}, repo.Answer{})
	w.asks(4, 0, func() { w.ends(repo.Cmd{Kind: restores, Name: "snap/x", Who: 4}, api.ErrNone) })
	if !slices.Equal(w.holders(), []uint64{4}) {
		t.Errorf("%v", w.holders())
	}
}

// aged is a world in which each kind has something to do: two snapshots, of which the first one's chunk is of nobody else, and the second one's, which is in a cold pack that is thawed.
func aged(t *testing.T) (*world, []string) {
	t.Helper()
	w := made(t, setup())
	names := []string{w.keep(files("a", "1111"))}
	w.freezes(1)
	w.tick(1)
	names = append(names, w.keep(files("a", "1111", "b", "2222")))
	w.waits(names[1])
	w.tick(3)
	return w, names
}

// does is what commands of each kind answer in an aged world.
func does(names []string) [rebuilds + 1]repo.Answer {
	return [...]repo.Answer{
		lists:    {Names: names},
		restores: {Done: true, Files: files("a", "1111", "b", "2222")},
		forgets:  {Names: names[:1]},
		prunes:   {},
		tiers:    {N: 1},
		checks:   {Done: true},
		rebuilds: {N: 4},
	}
}

func TestEachKind(t *testing.T) {
	for kind := lists; kind <= rebuilds; kind++ {
		w, names := aged(t)
		w.answers(command(kind, 7, names[1]), does(names)[kind])
		// What a kind isn't said to use makes no difference.
		w, names = aged(t)
		c := command(kind, 7, names[1])
		switch kind {
		case lists, checks, rebuilds:
			c = repo.Cmd{Kind: kind, N: -9, Flag: true, Name: "x", Host: "/"}
		case restores:
			c.N, c.Flag, c.Host = -9, true, "/"
		case forgets:
			c.N, c.Flag, c.Name = -9, true, "/"
		case prunes:
			c.Name, c.Host = "/", "/"
		case tiers:
			c.Flag, c.Name, c.Host = true, "/", "/"
		}
		c.Bits = []bool{true}
		if kind != forgets {
			c.Keep = retain.Policy{Last: -1, Day: -1}
		}
		c.Files = files("/", "")
		w.answers(c, does(names)[kind])
	}
}

func TestAFaultAtEachOperation(t *testing.T) {
	for kind := backups; kind <= rebuilds; kind++ {
		for _, ice := range []bool{false, true} {
			n := 0
			for ; n < 40; n++ {
				w, names := aged(t)
				c := command(kind, 7, names[1])
				c.Files = nil
				w.failing(ice, n)
				a := w.Do(c)
				if a.Code == api.OK {
					break
				}
				if kind != forgets && !equal(a, repo.Answer{Code: api.ErrFault}) || a.Code != api.ErrFault {
					t.Errorf("kind %d, fault %d: %v", kind, n, a)
				}
				w.whole()
				w.holdsAll(kind, names)
			}
			if kind == restores && ice && n != 1 || !ice && n < 4 || n > 30 {
				t.Errorf("kind %d: %d operations fail", kind, n)
			}
		}
	}
}

// holdsAll tells that behind a command of a kind both snapshots must be there, but what was forgotten, and that all is there.
func (w *world) holdsAll(kind int, names []string) {
	w.t.Helper()
	// Whosever lock there is is stale then.
	w.tick(100)
	list := w.Do(repo.Cmd{Kind: lists}).Names
	for i, name := range names {
		if kind == forgets && i == 0 {
			continue
		}
		if !slices.Contains(list, name) {
			w.t.Fatalf("kind %d: %d isn't listed", kind, i)
		}
		want := files("a", "1111", "b", "2222")[:i+1]
		if a := w.Do(repo.Cmd{Kind: restores, Name: name}); !a.Done {
			w.tick(3)
			w.has(name, want)
		} else if !sameFiles(a.Files, want) {
			w.t.Fatalf("kind %d: %v", kind, a)
		}
	}
	w.answers(repo.Cmd{Kind: checks}, repo.Answer{Done: true})
}

func TestThePowerGoesAtEachOperation(t *testing.T) {
	for kind := backups; kind <= rebuilds; kind++ {
		n := int64(0)
		for ; n < 40; n++ {
			w, names := aged(t)
			c := command(kind, 7, names[1])
			c.Files = nil
			w.answers(repo.Cmd{Kind: powers, N: n}, repo.Answer{})
			// Faults that are to come are over, too.
			w.answers(repo.Cmd{Kind: faults, Bits: append(make([]bool, n), true)}, repo.Answer{})
			w.answers(repo.Cmd{Kind: faults, Flag: true, Bits: append(make([]bool, n), true)}, repo.Answer{})
			a := w.Do(c)
			if a.Code != api.ErrCrash {
				break
			}
			if !equal(a, repo.Answer{Code: api.ErrCrash}) {
				t.Errorf("kind %d, power %d: %v", kind, n, a)
			}
			locked := slices.Contains(w.holders(), 7)
			if locked != (n >= 2) {
				t.Errorf("kind %d, power %d: %v have the lock", kind, n, w.holders())
			}
			// Neither a depot is open, nor a fault, nor the power's going, to come: by one's own lock there is no hindrance.
			hot := w.hot.Ops()
			if a := w.Do(repo.Cmd{Kind: lists, Who: 7}); a.Code != api.OK || w.hot.Ops()-hot < 2+2+1+1 {
				t.Errorf("kind %d, power %d: %v, %d operations", kind, n, a, w.hot.Ops()-hot)
			}
			w.holdsAll(kind, names)
		}
		if n < 4 || n > 30 {
			t.Errorf("kind %d: the power goes at %d operations", kind, n)
		}
	}
}

func TestThePowerGoesByAnotherFuse(t *testing.T) {
	for _, ice := range []bool{false, true} {
		w, names := aged(t)
		fuse := guard.NewFuse(0)
		if ice {
			w.ice.Arm(fuse, nil)
		} else {
			w.hot.Arm(fuse, nil)
		}
		c := command(restores, 0, names[1])
		if fuse.Catch(func() { w.ends(c, api.ErrCrash) }) {
			t.Error("it went on through Do")
		}
		w.holdsAll(lists, names)
	}
}

func TestBackupsAreByTheSetupAndTheTime(t *testing.T) {
	s := setup()
	s.Target = 13 + 2*(36+4)
	w := made(t, s)
	w.tick(5)
	a := w.Do(repo.Cmd{Kind: backups, Host: "h", Name: "daily", Files: files("a", "11112222")})
	// Both chunks are in one pack, the tree in another one.
	if hot, _ := w.things(); len(hot) != 2+1+1 {
		t.Errorf("%v", hot)
	}
	w.tick(1)
	b := w.Do(repo.Cmd{Kind: backups, Host: "h", Name: "daily", Files: files("a", "11112222")})
	c := w.Do(repo.Cmd{Kind: backups, Host: "h", Name: "weekly", Files: files("a", "11112222")})
	d := w.Do(repo.Cmd{Kind: backups, Host: "i", Name: "daily", Files: files("a", "11112222")})
	again := w.Do(repo.Cmd{Kind: backups, Host: "i", Name: "daily", Files: files("a", "11112222")})
	var names []string
	for _, x := range []repo.Answer{a, b, c, d} {
		names = append(names, x.Names...)
	}
	// By their times, then their hosts, then their tags.
	w.lists(names...)
	if !equal(d, again) {
		t.Errorf("%v %v", d, again)
	}
	// Of a tag that is kept, none goes.
	w.answers(repo.Cmd{Kind: forgets, Keep: retain.Policy{Tag: "daily"}}, repo.Answer{Names: names[2:3]})
	s.Cut.Min = -1
	w = made(t, s)
	w.ends(repo.Cmd{Kind: backups, Host: "h"}, api.ErrArg)
	w.lists()
}

func TestForgetPruneAndTier(t *testing.T) {
	w := made(t, setup())
	one := w.keep(files("a", "1111"))
	w.tick(1)
	two := w.keep(files("a", "2222"))
	// The first one's chunk is old enough at 1, the second one's at 2.
	w.answers(repo.Cmd{Kind: tiers, N: 1}, repo.Answer{N: 1})
	w.answers(repo.Cmd{Kind: tiers, N: 1}, repo.Answer{})
	w.answers(repo.Cmd{Kind: prunes}, repo.Answer{})
	w.answers(repo.Cmd{Kind: forgets, Host: "other"}, repo.Answer{})
	w.answers(repo.Cmd{Kind: forgets, Host: "h", Keep: retain.Policy{Last: 1}}, repo.Answer{Names: []string{one}})
	// Its tree goes; its chunk is young, and stays.
	w.answers(repo.Cmd{Kind: prunes}, repo.Answer{N: 1})
	if w.ice.Len() != 1 || w.ice.Lost() != 0 {
		t.Error("what is young went")
	}
	w.answers(repo.Cmd{Kind: prunes, Flag: true}, repo.Answer{N: 1})
	if w.ice.Len() != 0 || w.ice.Lost() != 10 {
		t.Error("what is young didn't go")
	}
	w.has(two, files("a", "2222"))
	// What is left behind by a policy of all hosts.
	w.answers(repo.Cmd{Kind: forgets}, repo.Answer{Names: []string{two}})
	w.answers(repo.Cmd{Kind: prunes}, repo.Answer{N: 2})
	if hot, ice := w.things(); len(hot) != 1 || len(ice) != 0 {
		t.Errorf("%v %v", hot, ice)
	}
}

func TestWasteOfAPrune(t *testing.T) {
	s := setup()
	s.Target = 1 << 20
	for waste, n := range map[int64]int{-1 << 63: 2, -1: 2, 0: 1, 60: 1, 100: 0, 1<<63 - 1: 0} {
		w := made(t, s)
		w.keep(files("a", "1111", "b", "2222"))
		w.tick(1)
		name := w.keep(files("a", "1111"))
		w.Do(repo.Cmd{Kind: forgets, Keep: retain.Policy{Last: 1}})
		// The first one's pack has both chunks, one of which alone is of the second one, and a tree that is of none; the second one's has its tree.
		w.answers(repo.Cmd{Kind: prunes, N: waste}, repo.Answer{N: n})
		w.has(name, files("a", "1111"))
	}
}

func TestCheckAndRebuild(t *testing.T) {
	w := made(t, setup())
	list := files("a", "1111")
	name := w.keep(list)
	w.answers(repo.Cmd{Kind: checks}, repo.Answer{Done: true})
	packs, _ := w.hot.List("pack/")
	b, _ := w.hot.Get(packs[0])
	w.hot.Put(packs[0], nil)
	w.answers(repo.Cmd{Kind: checks}, repo.Answer{})
	w.answers(repo.Cmd{Kind: rebuilds}, repo.Answer{N: 1})
	w.hot.Put(packs[0], b)
	w.answers(repo.Cmd{Kind: rebuilds}, repo.Answer{N: 2})
	w.answers(repo.Cmd{Kind: checks}, repo.Answer{Done: true})
	w.has(name, list)
}

func TestTreesThatAreColdAreLoadedAtTheTime(t *testing.T) {
	for _, kind := range []int{restores, prunes, tiers, checks} {
		s := setup()
		s.Target = 1 << 20
		w := made(t, s)
		name := w.keep(files("a", "1111"))
		// No command moves a pack that has a tree, so it is moved by hand, and the depot is opened anew.
		d, e := depot.Open(w.hot, w.ice, 0)
		if e != api.OK {
			t.Fatal(e)
		}
		for id := range d.Index().Packs() {
			tier.Move(d, id, 0)
		}
		w.answers(repo.Cmd{Kind: powers}, repo.Answer{})
		w.ends(repo.Cmd{Kind: lists}, api.ErrCrash)
		c := repo.Cmd{Kind: kind, Name: name}
		w.ends(c, api.ErrThaw)
		w.tick(1)
		if e := w.ice.Request(first(w.ice.List("pack/")), 1, 3); e != api.OK {
			t.Fatal(e)
		}
		w.ends(c, api.ErrThaw)
		w.tick(3)
		if a := w.Do(c); a.Code != api.OK || kind == checks && !a.Done || kind == restores && !sameFiles(a.Files, files("a", "1111")) {
			t.Errorf("kind %d: %v", kind, a)
		}
	}
}
