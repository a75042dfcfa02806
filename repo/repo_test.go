package repo_test

import (
	"math"
	"testing"

	"coldstore/api"
	"coldstore/chunk"
	"coldstore/repo"
)

func TestNewOfWrongSetups(t *testing.T) {
	for i, turn := range []func(*repo.Setup){
		func(s *repo.Setup) { s.Hot = -1 },
		func(s *repo.Setup) { s.Cold = -1 },
		func(s *repo.Setup) { s.Jobs = 0 },
		func(s *repo.Setup) { s.Jobs = 65 },
		func(s *repo.Setup) { s.Life = 0 },
		func(s *repo.Setup) { s.Life = api.MaxTime + 1 },
		func(s *repo.Setup) { s.Least = -1 },
		func(s *repo.Setup) { s.Least = api.MaxTime + 1 },
		func(s *repo.Setup) { s.Stale = 0 },
		func(s *repo.Setup) { s.Stale = math.MinInt64 },
		func(s *repo.Setup) { s.Wait = -1 },
		func(s *repo.Setup) { s.Wait = math.MinInt64 },
	} {
		s := setup()
		turn(&s)
		if r, e := repo.New(s); r != nil || e != api.ErrArg {
			t.Errorf("case %d: %v %d", i, r, e)
		}
	}
	if r, e := repo.New(repo.Setup{}); r != nil || e != api.ErrArg {
		t.Errorf("nothing: %v %d", r, e)
	}
}

func TestNewOfTheEdges(t *testing.T) {
	for i, s := range []repo.Setup{
		{Jobs: 1, Life: 1, Stale: 1},
		{Jobs: 64, Life: api.MaxTime, Least: api.MaxTime, Stale: math.MaxInt64, Wait: math.MaxInt64, Hot: math.MaxInt, Cold: math.MaxInt},
		{Jobs: 1, Life: 1, Stale: 1, Cache: -9, Room: -9, Batch: -9, Target: -9, Cut: chunk.Params{Min: -9, Max: -9, Bits: 99, Width: -9}},
		{Jobs: 1, Life: 1, Stale: 1, Cache: math.MaxInt, Room: math.MaxInt, Batch: math.MaxInt, Target: math.MaxInt},
	} {
		if r, e := repo.New(s); r == nil || e != api.OK {
			t.Errorf("case %d: %d", i, e)
		}
	}
}

func TestNewHasNothing(t *testing.T) {
	w := made(t, setup())
	if w.Now() != 0 || w.hot.Len()+w.ice.Len() != 0 || w.hot.Ops()+w.ice.Ops() != 0 {
		t.Error("something is there")
	}
	hot, ice := w.Parts()
	if hot != w.hot || ice != w.ice {
		t.Error("the stores aren't its own")
	}
	w.lists()
	if other := made(t, setup()); other.hot == w.hot || other.ice == w.ice {
		t.Error("two repositories share a store")
	}
}

func TestStoresAreAsTheSetupTells(t *testing.T) {
	s := setup()
	s.Hot, s.Cold, s.Jobs = 5, 3, 2
	w := made(t, s)
	if w.hot.Put("a", make([]byte, 6)) != api.ErrQuota || w.hot.Put("a", make([]byte, 5)) != api.OK {
		t.Error("the hot quota")
	}
	if w.ice.Put("a", make([]byte, 4), 0) != api.ErrQuota || w.ice.Put("a", make([]byte, 1), 0) != api.OK {
		t.Error("the cold quota")
	}
	if w.ice.Left("a", 4) != 6 {
		t.Error("the least time")
	}
	for i, want := range []api.Errno{api.OK, api.OK, api.ErrJobs} {
		name := string('b' + rune(i))
		w.ice.Put(name, nil, 0)
		if e := w.ice.Request(name, 0, 3); e != want {
			t.Errorf("job %d: %d", i, e)
		}
	}
	if w.ice.State("b", 7) != 2 || w.ice.State("b", 8) != 0 {
		t.Error("the life")
	}
}

func TestOneFileIsHadBack(t *testing.T) {
	w := made(t, setup())
	list := files("a/b", "what is kept")
	name := w.keep(list)
	w.lists(name)
	w.has(name, list)
}

func TestOtherKinds(t *testing.T) {
	w := made(t, setup())
	list := files("a", "12345678")
	name := w.keep(list)
	w.failing(false, 0)
	w.asks(0, 0, func() {
		for _, kind := range []int{0, -1, 14, 15, 255, 256, 257, math.MinInt, math.MaxInt} {
			w.ends(repo.Cmd{Kind: kind, N: 5, Name: name, Host: "h", Flag: true, Files: list, Bits: []bool{true}}, api.ErrScript)
		}
	})
	if w.Now() != 0 {
		t.Error("the time")
	}
	w.ends(repo.Cmd{Kind: lists}, api.ErrFault)
	w.lists(name)
}

func TestWhatIsHandedInIsTheCallersOwn(t *testing.T) {
	w := made(t, setup())
	memory := []byte("12345678")
	list := []api.File{{Path: "a", Data: memory[:6]}, {Path: "b"}}
	name := w.keep(list[:1])
	if string(memory) != "12345678" || list[1].Path != "b" || list[0].Path != "a" {
		t.Errorf("%q %v", memory, list)
	}
	copy(memory, "xxxxxxxx")
	list[0].Path = "x"
	w.has(name, files("a", "123456"))
	bits := []bool{false, false, false, true}
	w.answers(repo.Cmd{Kind: faults, Bits: bits[:3]}, repo.Answer{})
	if !bits[3] {
		t.Error("what stands behind the bits")
	}
	bits[0] = true
	w.lists(name)
}

func TestWhatIsAnsweredIsTheCallersOwn(t *testing.T) {
	w := made(t, setup())
	list := files("a", "12345678", "b", "12345678")
	name := w.keep(list)
	restore := repo.Cmd{Kind: restores, Name: name}
	for range 3 {
		// Behind the first one it is done already.
		a := w.Do(restore)
		if !sameFiles(a.Files, list) {
			t.Fatalf("%v", a)
		}
		a.Files[0].Data[0] = 'x'
		_ = append(a.Files[0].Data, "yyyyyyyyyyyyyyyyyyyyyyyy"...)
		if string(a.Files[1].Data) != "12345678" {
			t.Error("two files share memory")
		}
		a.Files[1] = api.File{}
	}
	a := w.Do(repo.Cmd{Kind: lists})
	a.Names[0] = "x"
	w.lists(name)
}

func TestZeroRepoHasRoomForNothing(t *testing.T) {
	var r repo.Repo
	for kind := range 15 {
		want := api.ErrRange
		switch {
		case kind == 0 || kind > jobs:
			want = api.ErrScript
		case kind >= ticks:
			want = api.OK
		}
		if a := r.Do(repo.Cmd{Kind: kind, N: 1}); !equal(a, repo.Answer{Code: want}) {
			t.Errorf("kind %d: %v", kind, a)
		}
	}
	if hot, ice := r.Parts(); r.Now() != 1 || hot.Len()+ice.Len() != 0 {
		t.Error("what is told")
	}
}
