package tier_test

import (
	"math"
	"slices"
	"testing"

	"coldstore/api"
	"coldstore/pack"
	"coldstore/tier"
	"coldstore/tree"
)

// finds tells which packs may be moved, and how many operations tell it.
func (w *world) finds(age, now int64, want []api.ID, hot, ice int) {
	w.t.Helper()
	w.asks(hot, ice, func() {
		if got, e := tier.Find(w.Depot, age, now); e != api.OK || !slices.Equal(got, sorted(want...)) {
			w.t.Errorf("Find(%d, %d): %d of them, %d, not %d", age, now, len(got), e, len(want))
		}
	})
}

// fails tells with which error Find ends, and behind how many operations.
func (w *world) fails(age, now int64, want api.Errno, hot, ice int) {
	w.t.Helper()
	w.asks(hot, ice, func() {
		if got, e := tier.Find(w.Depot, age, now); e != want || len(got) != 0 {
			w.t.Errorf("Find: %v %d, not %d", got, e, want)
		}
	})
}

func TestFind(t *testing.T) {
	w := empty(t, 0)
	w.finds(0, 0, nil, 1, 0)
	root := dir(t, "a", "b", "b, too")
	w.save(root)
	one, two := w.save("a"), w.save("dead", "b", "b, too")
	w.save("nobody's")
	w.finds(0, 100, nil, 1, 0)
	name := w.keep(3, root)
	// The snapshots, the root; of the packs those that are live, and have no tree as far as is known: all three.
	w.finds(0, 3, []api.ID{one, two}, 2+1+3, 0)
	w.finds(0, 2, nil, 2+1, 0)
	w.must(w.hot.Drop(name))
	w.finds(0, 3, nil, 1, 0)
}

func TestAges(t *testing.T) {
	w := empty(t, 0)
	root := dir(t, "a")
	w.save(root)
	id := w.save("a")
	w.keep(50, root)
	for _, c := range []struct {
		age, now int64
		old      bool
	}{
		{0, 49, false}, {0, 50, true}, {0, 51, true},
		{5, 54, false}, {5, 55, true}, {5, 56, true},
		{-1, 49, false}, {-1, 50, true}, {math.MinInt64, 49, false}, {math.MinInt64, 50, true},
		{0, -1, false}, {0, math.MinInt64, false}, {math.MaxInt64, math.MinInt64, false}, {math.MinInt64, math.MinInt64, false},
		{math.MaxInt64, math.MaxInt64, false}, {math.MaxInt64, 0, false},
		{api.MaxTime - 50, math.MaxInt64, true}, {api.MaxTime - 49, math.MaxInt64, false},
		{api.MaxTime - 50, api.MaxTime, true}, {api.MaxTime - 49, api.MaxTime + 1, false},
	} {
		if c.old {
			w.finds(c.age, c.now, []api.ID{id}, 5, 0)
		} else {
			w.finds(c.age, c.now, nil, 3, 0)
		}
	}
}

func TestTimesAtTheirBounds(t *testing.T) {
	for _, time := range []int64{0, api.MaxTime} {
		w := empty(t, 0)
		root := dir(t, "a")
		w.save(root)
		id := w.save("a")
		w.keep(time, root)
		w.finds(0, api.MaxTime, []api.ID{id}, 5, 0)
		w.finds(1, time, nil, 3, 0)
		if time == 0 {
			w.finds(0, -7, []api.ID{id}, 5, 0)
		}
	}
}

func TestTheYoungestSnapshotCounts(t *testing.T) {
	for _, times := range [][2]int64{{3, 8}, {8, 3}} {
		w := empty(t, 0)
		one, two := dir(t, "a", "b"), dir(t, "b", "c")
		w.save(one)
		w.save(two)
		a, b, c, both := w.save("a"), w.save("b"), w.save("c"), w.save("a", "c", "dead")
		w.keep(times[0], one)
		w.keep(times[1], two)
		old := a
		if times[0] == 8 {
			old = c
		}
		// A snapshot's trees are as old as it is.
		w.finds(0, 7, []api.ID{old}, 3+2+2, 0)
		w.finds(0, 8, []api.ID{a, b, c, both}, 3+2+6, 0)
		w.finds(0, 2, nil, 3+2, 0)
		// Each snapshot of one tree counts.
		w.keep(9, one)
		w.keep(9, two)
		w.finds(0, 8, nil, 5+4, 0)
		w.finds(0, 9, []api.ID{a, b, c, both}, 5+4+6, 0)
	}
}

func TestBlobsInManyPacks(t *testing.T) {
	w := empty(t, 0)
	root := dir(t, "a", "b")
	trees := w.save(root)
	w.keep(1, root)
	// Whether a blob is live isn't asked of its place.
	packs := []api.ID{w.save("a"), w.save("a", "dead"), w.save("a", "dead", "b"), w.save("b")}
	w.finds(0, 1, packs, 2+1+5, 0)
	away := w.freeze(w.save("a", "away"), 0)
	w.finds(0, 1, packs, 2+1+5, 0)
	w.tells(append(packs, trees), []api.ID{away})
}

func TestPacksThatHaveNoBlobs(t *testing.T) {
	w := empty(t, 0)
	root := dir(t)
	w.save(root)
	w.save()
	w.keep(1, root)
	w.finds(0, 1, nil, 2+1+1, 0)
	// A blob of no bytes is one.
	root = dir(t, "")
	w.save(root)
	w.keep(1, root)
	id := w.save("")
	w.finds(0, 1, []api.ID{id}, 3+2+3, 0)
}

func TestPacksThatHaveTrees(t *testing.T) {
	w := empty(t, 0)
	low := dir(t, "a", "b")
	b, e := tree.Encode([]tree.Node{{Name: "d", Dir: true, Sub: sum(low)}, {Name: "f", Size: 1, Parts: []api.ID{sum("c")}}})
	w.must(e)
	top := string(b)
	w.save(low, "a")
	w.save("c", top, "nobody's")
	id := w.save("b")
	// It isn't asked whether that tree is anybody's.
	w.save("b", "c", dir(t, "stray"))
	w.keep(1, top)
	w.finds(0, 1, []api.ID{id}, 2+2+4, 0)
	// What is a chunk, too, is a tree's bytes.
	root := dir(t, low)
	w.keep(1, root)
	w.save(root)
	w.save(low)
	w.finds(0, 1, []api.ID{id}, 3+3+6, 0)
}

func TestABlobBehindATreeIsNotAskedFor(t *testing.T) {
	root := dir(t, "a", "b")
	for want, list := range map[api.Errno][]string{api.OK: {root, "a", "b"}, api.ErrHash: {"b", "a", root}} {
		w := empty(t, 1<<20)
		w.Cache().Put([]byte(root))
		id := w.save(list...)
		w.keep(1, root)
		b, _ := w.hot.Get(named(id))
		b[slices.Index(b, 'b')] ^= 1
		if want == api.OK {
			b, _, _ = packed(t, list...)
			b[len(root)] ^= 1
		}
		w.must(w.hot.Put(named(id), b))
		if want == api.OK {
			w.finds(0, 1, nil, 3, 0)
		} else {
			w.fails(0, 1, want, 3, 0)
		}
	}
}

func TestPacksThatAreSpoilt(t *testing.T) {
	spoil := func(b []byte) []byte { b[0] ^= 1; return b }
	for _, c := range []struct {
		spoil func([]byte) []byte
		want  api.Errno
	}{
		{spoil, api.ErrHash},
		{func([]byte) []byte { return nil }, api.ErrRange},
		{func(b []byte) []byte { return b[:4] }, api.ErrRange},
		// What stands behind the blobs isn't asked for.
		{func(b []byte) []byte { return b[:len(b)-1] }, api.OK},
	} {
		w := empty(t, 0)
		root := dir(t, "live", "dead")
		w.save(root)
		w.keep(1, root)
		id := w.save("live", "dead")
		b, _ := w.hot.Get(named(id))
		w.must(w.hot.Put(named(id), c.spoil(b)))
		if c.want == api.OK {
			w.finds(0, 1, []api.ID{id}, 5, 0)
			continue
		}
		_, e := tier.Find(w.Depot, 0, 1)
		if e != c.want {
			t.Errorf("%d, not %d", e, c.want)
		}
		if n, e := tier.Run(w.Depot, 0, 1); n != 0 || e != c.want {
			t.Errorf("Run: %d %d, not %d", n, e, c.want)
		}
		// A pack that isn't moved isn't asked.
		w.finds(0, 0, nil, 3, 0)
	}
}

func TestThePacksAreAskedInOrder(t *testing.T) {
	w := empty(t, 1<<20)
	root := dir(t, "a")
	w.Cache().Put([]byte(root))
	w.keep(1, root)
	// Packs of any sums, of which the index tells only.
	b, _, list := packed(t, "a")
	for i := range byte(4) {
		w.put(api.ID{9 - i}, false, list)
		w.must(w.hot.Put(named(api.ID{9 - i}), b))
	}
	w.finds(0, 1, []api.ID{{6}, {7}, {8}, {9}}, 2+4, 0)
	w.must(w.hot.Drop(named(api.ID{8})))
	w.fails(0, 1, api.ErrNone, 2+3, 0)
	w.put(api.ID{7, 1}, false, []pack.Entry{{ID: sum("a"), Off: 0, Len: 1 << 20}})
	w.must(w.hot.Put(named(api.ID{7, 1}), b))
	w.fails(0, 1, api.ErrRange, 2+3, 0)
	// Of a blob that stands there twice the second one is asked for, too.
	w.put(api.ID{1}, false, append(list, pack.Entry{ID: sum("a"), Off: 1, Len: 1}))
	w.must(w.hot.Put(named(api.ID{1}), b))
	w.fails(0, 1, api.ErrHash, 2+1, 0)
}

func TestFindOfColdTrees(t *testing.T) {
	w := empty(t, 0)
	root := dir(t, "a")
	away := w.freeze(w.save(root), 0)
	id := w.save("a")
	w.keep(1, root)
	w.fails(0, 1, api.ErrThaw, 2, 1)
	w.must(w.ice.Request(named(away), 0, 10))
	w.fails(0, 9, api.ErrThaw, 2, 1)
	w.finds(0, 10, []api.ID{id}, 3, 1)
	w.finds(0, 1009, []api.ID{id}, 3, 1)
	w.fails(0, 1010, api.ErrThaw, 2, 1)
}

func TestTheFirstErrorEndsFind(t *testing.T) {
	gone, junk := dir(t, "gone"), "junk that is no tree"
	for _, c := range []struct {
		gone, junk int64
		want       api.Errno
	}{{3, 4, api.ErrNone}, {4, 3, api.ErrSum}, {9, 4, api.ErrSum}, {0, 4, api.ErrNone}} {
		w := empty(t, 0)
		w.save(junk)
		w.keep(c.gone, gone)
		w.keep(c.junk, junk)
		hot := 3
		if c.want == api.ErrSum {
			hot = 4
		}
		w.fails(0, 9, c.want, hot, 0)
		w.fails(0, 0, c.want, hot, 0)
	}
}

func TestAFaultEndsFind(t *testing.T) {
	for n := range 8 {
		w := empty(t, 0)
		one, two := dir(t, "a"), dir(t, "b")
		w.save(one, two)
		id := w.save("a", "b")
		w.keep(1, one)
		w.keep(2, two)
		w.hot.Arm(nil, append(make([]bool, n), true))
		if n == 7 {
			w.finds(0, 2, []api.ID{id}, 7, 0)
			continue
		}
		w.fails(0, 2, api.ErrFault, n+1, 0)
		if _, e := w.do(arms{power: n}, func() (int, api.Errno) {
			list, e := tier.Find(w.Depot, 0, 2)
			return len(list), e
		}); e != api.ErrCrash {
			t.Errorf("the power goes behind %d: %d", n, e)
		}
	}
}
