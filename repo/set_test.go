package repo_test

import (
	"math"
	"testing"

	"coldstore/api"
	"coldstore/repo"
)

func TestTick(t *testing.T) {
	w := made(t, setup())
	for i, c := range []struct{ n, now int64 }{
		{0, 0}, {5, 5}, {-1, 5}, {math.MinInt64, 5}, {1, 6},
		{api.MaxTime - 7, api.MaxTime - 1}, {1, api.MaxTime}, {1, api.MaxTime}, {math.MaxInt64, api.MaxTime}, {-3, api.MaxTime},
	} {
		w.asks(0, 0, func() { w.answers(repo.Cmd{Kind: ticks, N: c.n, Flag: true, Name: "x"}, repo.Answer{}) })
		if w.Now() != c.now {
			t.Errorf("case %d: %d", i, w.Now())
		}
	}
	w.lists()
	w = made(t, setup())
	w.answers(repo.Cmd{Kind: ticks, N: math.MaxInt64}, repo.Answer{})
	if w.Now() != api.MaxTime {
		t.Errorf("%d", w.Now())
	}
}

func TestFaultsOfEachStore(t *testing.T) {
	w := made(t, setup())
	w.keep(files("a", "1234"))
	w.asks(0, 0, func() {
		w.answers(repo.Cmd{Kind: faults, Bits: []bool{false, true, false}}, repo.Answer{})
		w.answers(repo.Cmd{Kind: faults, Flag: true, Bits: []bool{true}}, repo.Answer{})
	})
	// The hot one's second operation fails, by which the third one lets no lock go, since none was taken.
	w.asks(2, 0, func() { w.ends(repo.Cmd{Kind: lists}, api.ErrFault) })
	if _, e := w.ice.List(""); e != api.ErrFault {
		t.Error("the cold one's", e)
	}
	if _, e := w.ice.List(""); e != api.OK {
		t.Error("there are no more", e)
	}
	// Others take the place of those that were to come, of the same store alone.
	w.failing(false, 0)
	w.failing(true, 0)
	w.failing(false, 1)
	if _, e := w.hot.List(""); e != api.OK {
		t.Error("the hot one's first one", e)
	}
	w.answers(repo.Cmd{Kind: faults}, repo.Answer{})
	if _, e := w.hot.List(""); e != api.OK {
		t.Error("none", e)
	}
	if _, e := w.ice.List(""); e != api.ErrFault {
		t.Error("the cold one's stays", e)
	}
}

func TestFaultsLeaveThePowerAsItIs(t *testing.T) {
	for _, ice := range []bool{false, true} {
		w := made(t, setup())
		w.lists()
		w.answers(repo.Cmd{Kind: powers, N: 5}, repo.Answer{})
		w.asks(4, 0, func() { w.lists() })
		w.answers(repo.Cmd{Kind: faults, Flag: ice, Bits: make([]bool, 3)}, repo.Answer{})
		w.asks(1, 0, func() { w.ends(repo.Cmd{Kind: lists}, api.ErrCrash) })
	}
}

func TestPowerEndsFaults(t *testing.T) {
	for _, n := range []int64{-1, math.MinInt64, 100} {
		w := made(t, setup())
		w.failing(false, 0)
		w.failing(true, 0)
		w.answers(repo.Cmd{Kind: powers, N: n}, repo.Answer{})
		w.lists()
		if _, e := w.ice.List(""); e != api.OK {
			t.Errorf("power %d: %d", n, e)
		}
	}
}

func TestPowerCountsBothStores(t *testing.T) {
	w := made(t, setup())
	w.lists()
	w.answers(repo.Cmd{Kind: powers, N: 5}, repo.Answer{})
	for i, list := range []func(string) ([]string, api.Errno){w.hot.List, w.ice.List, w.ice.List, w.hot.List} {
		if _, e := list(""); e != api.OK {
			t.Error(i, e)
		}
	}
	w.asks(1, 0, func() { w.ends(repo.Cmd{Kind: lists}, api.ErrCrash) })
}

func TestPowerAboveItsBound(t *testing.T) {
	for _, n := range []int64{api.MaxSteps, api.MaxSteps + 1, math.MaxInt64} {
		w := made(t, setup())
		w.lists()
		w.answers(repo.Cmd{Kind: powers, N: n}, repo.Answer{})
		for range api.MaxSteps - 4 {
			w.hot.List("")
		}
		w.asks(4, 0, func() { w.lists() })
		w.asks(0, 0, func() { w.ends(repo.Cmd{Kind: lists}, api.ErrCrash) })
	}
	// None is armed, and it doesn't go.
	for _, n := range []int64{-1, -2, math.MinInt64} {
		w := made(t, setup())
		w.answers(repo.Cmd{Kind: powers, N: n}, repo.Answer{})
		for range api.MaxSteps + 9 {
			w.hot.List("")
		}
		w.lists()
	}
}

// cached is a world whose cache has the root, and the chunk of a file of 8 bytes, of a restore that is done.
func cached(t *testing.T) (*world, string) {
	t.Helper()
	s := setup()
	s.Cache = 1000
	s.Cut.Min, s.Cut.Max = 8, 8
	w := made(t, s)
	name := w.keep(files("a", "12345678"))
	// A lock, both of its own, the snapshot, the root, and the chunk.
	w.asks(6, 0, func() { w.has(name, files("a", "12345678")) })
	return w, name
}

// again has the files back anew, by so many operations.
func again(w *world, name string, hot int) {
	w.t.Helper()
	// A restore of another one's name, behind which it is begun anew.
	other := w.Do(repo.Cmd{Kind: backups, Host: "other"}).Names[0]
	w.has(other, nil)
	w.asks(hot, 0, func() { w.has(name, files("a", "12345678")) })
}

func TestCacheIsSpoiled(t *testing.T) {
	w, name := cached(t)
	again(w, name, 4)
	w.asks(0, 0, func() { w.answers(repo.Cmd{Kind: caches, N: 77}, repo.Answer{}) })
	again(w, name, 6)
	again(w, name, 4)
	// A bit that is turned twice is as it was; the chunk has 64 of them, and below 0 they count from its end.
	for _, n := range []int64{0, 63, -1, math.MaxInt64, math.MinInt64} {
		for range 2 {
			w.answers(repo.Cmd{Kind: caches, N: n}, repo.Answer{})
		}
	}
	again(w, name, 4)
	w.answers(repo.Cmd{Kind: caches, N: math.MinInt64}, repo.Answer{})
	again(w, name, 6)
	w.asks(0, 0, func() { w.answers(repo.Cmd{Kind: caches, Flag: true, N: 3}, repo.Answer{}) })
	again(w, name, 6)
	again(w, name, 4)
}

func TestCacheOfNoDepot(t *testing.T) {
	w := made(t, setup())
	for _, wipe := range []bool{false, true} {
		w.asks(0, 0, func() { w.answers(repo.Cmd{Kind: caches, Flag: wipe}, repo.Answer{}) })
	}
	// Behind the power's going there is none either, and the next one has an empty cache.
	w, name := cached(t)
	w.answers(repo.Cmd{Kind: powers}, repo.Answer{})
	w.ends(repo.Cmd{Kind: lists}, api.ErrCrash)
	w.asks(0, 0, func() { w.answers(repo.Cmd{Kind: caches}, repo.Answer{}) })
	w.asks(2+6, 0, func() { w.has(name, files("a", "12345678")) })
}

func TestJobFails(t *testing.T) {
	w := made(t, setup())
	name := w.keep(files("a", "1234"))
	w.tick(1)
	w.freezes(1)
	w.waits(name)
	names, _ := w.ice.List("pack/")
	fail := repo.Cmd{Kind: jobs, Name: names[0], N: 9, Flag: true}
	w.asks(0, 0, func() {
		for _, wrong := range []string{"", "x", name, names[0][1:], names[0] + "0", names[0][:68]} {
			w.answers(repo.Cmd{Kind: jobs, Name: wrong}, repo.Answer{})
		}
		w.answers(fail, repo.Answer{Done: true})
		w.answers(fail, repo.Answer{})
	})
	w.tick(3)
	// It must be asked for anew.
	w.waits(name)
	w.tick(3)
	w.answers(fail, repo.Answer{})
	w.has(name, files("a", "1234"))
}
