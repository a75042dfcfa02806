package tier_test

import (
	"bytes"
	"math"
	"slices"
	"testing"

	"coldstore/api"
	"coldstore/index"
	"coldstore/tier"
)

// moves tells how a Move must end, and how many operations it must do.
func (w *world) moves(id api.ID, now int64, want api.Errno, hot, ice int) {
	w.t.Helper()
	w.asks(hot, ice, func() {
		if e := tier.Move(w.Depot, id, now); e != want {
			w.t.Errorf("Move: %d, not %d", e, want)
		}
	})
}

// moved is a Move, as what is armed.
func (w *world) moved(id api.ID, now int64) func() (int, api.Errno) {
	return func() (int, api.Errno) { return 0, tier.Move(w.Depot, id, now) }
}

func TestMove(t *testing.T) {
	w := empty(t, 0)
	one, two := w.save("a", "b"), w.save("c")
	b, _ := w.hot.Get(named(one))
	w.moves(one, 7, api.OK, 5, 2)
	w.has([]api.ID{two}, []api.ID{one})
	// It is there since then, and what it was.
	w.must(w.ice.Request(named(one), 7, 0))
	if got, e := w.ice.Get(named(one), 7); e != api.OK || !bytes.Equal(got, b) || w.ice.Left(named(one), 8) != 9 {
		t.Errorf("the cold pack: %d", e)
	}
	w.reopen()
	w.has([]api.ID{two}, []api.ID{one})
	if got, e := w.Load(sum("b"), 7); e != api.OK || string(got) != "b" {
		t.Errorf("%q %d", got, e)
	}
	// Whether it is live isn't asked, nor whether it has a tree.
	w.moves(two, 7, api.OK, 5, 2)
	root := w.save(dir(t))
	w.moves(root, 7, api.OK, 5, 2)
	w.has(nil, []api.ID{one, two, root})
}

func TestMoveOfWhatIsNoHotPack(t *testing.T) {
	w := empty(t, 0)
	w.moves(api.ID{7}, 0, api.ErrNone, 0, 0)
	away := w.freeze(w.save("a"), 0)
	w.moves(away, 0, api.ErrNone, 0, 0)
	// It is the index that tells it.
	b, other, _ := packed(t, "other")
	w.must(w.hot.Put(named(other), b))
	w.moves(other, 0, api.ErrNone, 0, 0)
	w.stands([]api.ID{other}, []api.ID{away}, nil, []api.ID{away}, nil)
	w.hot.Arm(nil, []bool{true})
	w.moves(api.ID{}, 0, api.ErrNone, 0, 0)
}

func TestMoveOfTimesThatAreBeyond(t *testing.T) {
	for now, since := range map[int64]int64{math.MinInt64: 0, -1: 0, math.MaxInt64: api.MaxTime, api.MaxTime + 1: api.MaxTime} {
		w := empty(t, 0)
		id := w.save("a")
		w.moves(id, now, api.OK, 5, 2)
		if left := w.ice.Left(named(id), since); left != min(10, api.MaxTime-since) {
			t.Errorf("at %d: young for %d", now, left)
		}
	}
}

func TestMoveOfWhatIsThereAlready(t *testing.T) {
	w := empty(t, 0)
	id := w.save("a")
	w.must(w.ice.Put(named(id), []byte("what is there"), 3))
	w.moves(id, 8, api.OK, 5, 1)
	w.has(nil, []api.ID{id})
	if w.ice.Left(named(id), 8) != 5 || w.ice.Size() != len("what is there") || w.ice.Lost() != 0 {
		t.Error("it was put again")
	}
	// Another name, and one that is only in the hot store, make no difference.
	w = empty(t, 0)
	id = w.save("a")
	other := w.save("b")
	w.must(w.ice.Put(named(other), nil, 3))
	w.moves(id, 8, api.OK, 5, 2)
	w.stands([]api.ID{other}, []api.ID{id, other}, []api.ID{other}, []api.ID{id}, nil)
}

func TestMoveOfAPackThatIsGone(t *testing.T) {
	w := empty(t, 0)
	id := w.save("a")
	w.must(w.hot.Drop(named(id)))
	w.moves(id, 0, api.ErrNone, 2, 0)
	w.stands(nil, nil, []api.ID{id}, nil, []api.ID{id})
	if b, e := w.hot.Get(noted(id)); e != api.OK || len(b) != 0 {
		t.Errorf("the note: %d bytes, %d", len(b), e)
	}
}

func TestMoveWithoutRoom(t *testing.T) {
	w := empty(t, 0)
	id := w.save("a")
	w.must(w.ice.Put("x", make([]byte, 1<<20), 0))
	for i := range 63 {
		w.must(w.ice.Put("x/"+named(api.ID{byte(i)}), make([]byte, 1<<20), 0))
	}
	w.moves(id, 0, api.ErrQuota, 2, 2)
	w.tells([]api.ID{id}, nil)
	w.must(w.ice.Drop("x", 0, true))
	w.moves(id, 0, api.OK, 5, 2)
	w.tells(nil, []api.ID{id})
}

func TestAMoveThatIsCutShort(t *testing.T) {
	// The note, the pack; a List, and the pack; the index, and both Drops.
	const operations = "hhcchhh"
	for n := range len(operations) + 1 {
		for want, a := range map[api.Errno]arms{api.ErrFault: failing(operations, n), api.ErrCrash: {power: n}} {
			w := empty(t, 0)
			id, other := w.save("a"), w.save("b")
			if n == len(operations) {
				want = api.OK
			}
			hot, ice := w.hot.Ops(), w.ice.Ops()
			if _, e := w.do(a, w.moved(id, 5)); e != want {
				t.Errorf("behind %d: %d, not %d", n, e, want)
			}
			if want == api.ErrFault && w.hot.Ops()-hot+w.ice.Ops()-ice != n+1 {
				t.Errorf("behind %d: %d operations", n, w.hot.Ops()-hot+w.ice.Ops()-ice)
			}
			if e := w.cut(id, other, n); e != api.OK {
				t.Errorf("behind %d: %d", n, e)
			}
			w.reopen()
			w.cut(id, other, n)
		}
	}
}

// cut tells how it must stand behind so many operations of a Move of one of two packs.
func (w *world) cut(id, other api.ID, n int) api.Errno {
	w.t.Helper()
	both := []api.ID{id, other}
	hot, ice, hotOf, coldOf, notes := both, []api.ID(nil), both, []api.ID(nil), []api.ID(nil)
	if n > 0 && n < 7 {
		notes = both[:1]
	}
	if n > 3 {
		ice = both[:1]
	}
	if n > 4 {
		hotOf, coldOf = both[1:], both[:1]
	}
	if n > 5 {
		hot = both[1:]
	}
	w.stands(hot, ice, hotOf, coldOf, notes)
	b, e := w.hot.Get("index")
	x, f := index.Decode(b)
	if e != api.OK || f != api.OK || !bytes.Equal(x.Encode(), w.Index().Encode()) {
		w.t.Error("the index that holds is another one")
	}
	return max(e, f)
}

// runs tells what Run must answer, and how many operations it must do.
func (w *world) runs(age, now int64, n int, want api.Errno, hot, ice int) {
	w.t.Helper()
	w.asks(hot, ice, func() {
		if got, e := tier.Run(w.Depot, age, now); got != n || e != want {
			w.t.Errorf("Run: %d %d, not %d %d", got, e, n, want)
		}
	})
}

func TestRun(t *testing.T) {
	w := empty(t, 0)
	w.runs(0, 0, 0, api.OK, 2, 0)
	root, young := dir(t, "a", "b", "c"), dir(t, "c")
	trees := w.save(root, young)
	one, two, three := w.save("a"), w.save("b", "dead"), w.save("c")
	dead := w.save("nobody's")
	w.keep(3, root)
	w.keep(8, young)
	// The notes, the snapshots (a List and two Gets), two trees; two packs, and of each the note, the pack, the index and two Drops.
	w.runs(5, 8, 2, api.OK, 1+3+2+2+2*5, 2*2)
	w.has([]api.ID{trees, three, dead}, []api.ID{one, two})
	w.runs(5, 8, 0, api.OK, 1+3+2, 0)
	// That of the trees is asked for, too, now.
	w.runs(5, 13, 1, api.OK, 1+3+2+2+5, 2)
	w.has([]api.ID{trees, dead}, []api.ID{one, two, three})
	if got := slices.Collect(w.Index().Blobs()); len(got) != 7 {
		t.Errorf("%d blobs", len(got))
	}
}

func TestRunEndsWhatWasBegun(t *testing.T) {
	w := empty(t, 0)
	root := dir(t, "a", "b")
	trees, one, two := w.save(root), w.save("a"), w.save("b")
	w.keep(3, root)
	if _, e := w.do(arms{power: 5}, w.moved(one, 3)); e != api.ErrCrash {
		t.Fatal(e)
	}
	w.stands([]api.ID{trees, one, two}, []api.ID{one}, []api.ID{trees, two}, []api.ID{one}, []api.ID{one})
	// What Recover ends isn't counted.
	w.runs(0, 3, 1, api.OK, 4+2+1+2+5, 1+2)
	w.has([]api.ID{trees}, []api.ID{one, two})
}

func TestTheFirstErrorEndsRun(t *testing.T) {
	// A name that is no note's goes; the snapshot, its root; four packs are asked for; three are moved, one by one.
	const operations = "hh" + "hhh" + "hhhh" + "hhcchhh" + "hhcchhh" + "hhcchhh"
	for n := range len(operations) + 1 {
		w := empty(t, 0)
		root := dir(t, "a", "b", "c")
		trees := w.save(root)
		packs := sorted(w.save("a"), w.save("b"), w.save("c"))
		w.keep(3, root)
		w.must(w.hot.Put("move/x", nil))
		want, done := api.ErrFault, max(n-9, 0)/7
		if n == len(operations) {
			want = api.OK
		}
		got, e := w.do(failing(operations, n), func() (int, api.Errno) { return tier.Run(w.Depot, 0, 3) })
		if got != done || e != want {
			t.Errorf("behind %d: %d %d, not %d %d", n, got, e, done, want)
		}
		// It is gone on with.
		if _, e := tier.Run(w.Depot, 0, 4); e != api.OK {
			t.Errorf("behind %d: %d", n, e)
		}
		w.has([]api.ID{trees}, packs)
		if w.ice.Lost() != 0 {
			t.Errorf("behind %d: %d were lost", n, w.ice.Lost())
		}
	}
}
