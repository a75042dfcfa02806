package prune_test

import (
	"math"
	"slices"
	"strconv"
	"strings"
	"testing"

	"coldstore/api"
	"coldstore/backup"
	"coldstore/cold"
	"coldstore/depot"
	"coldstore/object"
	"coldstore/pack"
	"coldstore/prune"
	"coldstore/sha"
	"coldstore/snap"
	"coldstore/tree"
)

// world is two stores, and a depot of them. What is cold is young for 10.
type world struct {
	t   *testing.T
	hot *object.Store
	ice *cold.Store
	*depot.Depot
}

// empty is a world of stores that have nothing, whose depot's cache has a limit.
func empty(t *testing.T, limit int) *world {
	t.Helper()
	hot, e := object.New(1 << 26)
	ice, f := cold.New(1<<26, 64, 1000, 10)
	d, g := depot.Open(hot, ice, limit)
	if e != api.OK || f != api.OK || g != api.OK {
		t.Fatal(e, f, g)
	}
	return &world{t, hot, ice, d}
}

// must ends the test, if there is an error.
func (w *world) must(e api.Errno) {
	w.t.Helper()
	if e != api.OK {
		w.t.Fatal(e)
	}
}

// named is a pack's name.
func named(id api.ID) string {
	return "pack/" + sha.Text(id)
}

// sum is a blob's sum.
func sum(b string) api.ID {
	return sha.Of([]byte(b))
}

// packed is a pack's bytes, their sum, and its blobs.
func packed(t *testing.T, blobs ...string) ([]byte, api.ID, []pack.Entry) {
	t.Helper()
	var b pack.Builder
	var list []pack.Entry
	for _, x := range blobs {
		entry, e := b.Add([]byte(x))
		if e != api.OK {
			t.Fatal(e)
		}
		list = append(list, entry)
	}
	return b.Done(), sha.Of(b.Done()), list
}

// save saves blobs as a hot pack: its sum.
func (w *world) save(blobs ...string) api.ID {
	w.t.Helper()
	b, id, list := packed(w.t, blobs...)
	w.must(w.hot.Put(named(id), b))
	x := w.Index()
	w.must(x.Put(id, false, list))
	w.must(w.Commit(x))
	return id
}

// move moves a hot pack to the cold store.
func (w *world) move(id api.ID, now int64) api.ID {
	w.t.Helper()
	b, e := w.hot.Get(named(id))
	w.must(e)
	w.must(w.ice.Put(named(id), b, now))
	x := w.Index()
	x.Move(id, true)
	w.must(w.Commit(x))
	w.must(w.hot.Drop(named(id)))
	return id
}

// dir is the bytes of a tree of a file, which has these chunks.
func dir(t *testing.T, chunks ...string) string {
	t.Helper()
	n := tree.Node{Name: "f"}
	for _, c := range chunks {
		n.Size += int64(len(c))
		n.Parts = append(n.Parts, sum(c))
	}
	b, e := tree.Encode([]tree.Node{n})
	if e != api.OK {
		t.Fatal(e)
	}
	return string(b)
}

// keep lists a snapshot of a tree: its name.
func (w *world) keep(time int64, root string) string {
	w.t.Helper()
	b, e := snap.Encode(snap.Snap{Time: time, Host: "h", Root: sum(root), Files: 1})
	w.must(e)
	w.must(w.hot.Put(snap.Name(b), b))
	return snap.Name(b)
}

// forget forgets all snapshots.
func (w *world) forget() {
	w.t.Helper()
	list, e := backup.List(w.hot)
	w.must(e)
	for _, n := range list {
		w.must(w.hot.Drop(n.Name))
	}
}

// sorted is sums, rising.
func sorted(list ...api.ID) []api.ID {
	return slices.SortedFunc(slices.Values(list), func(a, b api.ID) int { return slices.Compare(a[:], b[:]) })
}

// stand tells which names of packs the stores have, and which packs, hot and cold, the index.
func (w *world) stand(hot, ice []string, hotOf, coldOf []api.ID) {
	w.t.Helper()
	isHot, e := w.hot.List("pack/")
	isCold, f := w.ice.List("pack/")
	slices.Sort(hot)
	slices.Sort(ice)
	if e != api.OK || f != api.OK || !slices.Equal(isHot, hot) || !slices.Equal(isCold, ice) {
		w.t.Errorf("the stores have %.12s, not %.12s, and %.12s, not %.12s", isHot, hot, isCold, ice)
	}
	var hots, colds []api.ID
	for id, cold := range w.Index().Packs() {
		if cold {
			colds = append(colds, id)
		} else {
			hots = append(hots, id)
		}
	}
	if !slices.Equal(hots, sorted(hotOf...)) || !slices.Equal(colds, sorted(coldOf...)) {
		w.t.Errorf("the index has %d hot ones, not %d, and %d cold ones, not %d", len(hots), len(hotOf), len(colds), len(coldOf))
	}
}

// has tells that the stores have the index's packs alone.
func (w *world) has(hot, ice []api.ID) {
	w.t.Helper()
	w.stand(names(hot), names(ice), hot, ice)
}

// names is the names of packs.
func names(list []api.ID) []string {
	var all []string
	for _, id := range list {
		all = append(all, named(id))
	}
	return all
}

// run tells what Run must answer, and how many operations it must do on both stores.
func (w *world) run(now int64, waste, target int, force bool, want prune.Report, hot, ice int) {
	w.t.Helper()
	hot, ice = hot+w.hot.Ops(), ice+w.ice.Ops()
	if got, e := prune.Run(w.Depot, now, waste, target, force); e != api.OK || got != want {
		w.t.Errorf("Run: %v %d, not %v", got, e, want)
	}
	if w.hot.Ops() != hot || w.ice.Ops() != ice {
		w.t.Errorf("Run: %d hot operations too many, %d cold ones", w.hot.Ops()-hot, w.ice.Ops()-ice)
	}
}

// refused tells with which error Run must end.
func (w *world) refused(now int64, waste, target int, force bool, want api.Errno) {
	w.t.Helper()
	if got, e := prune.Run(w.Depot, now, waste, target, force); e != want || got != (prune.Report{}) {
		w.t.Errorf("Run: %v %d, not %d", got, e, want)
	}
}

func TestRunWithoutSnapshots(t *testing.T) {
	w := empty(t, 0)
	// Whatever is to be done, the index is committed, and both stores are listed.
	w.run(0, 50, 100, false, prune.Report{}, 3, 1)
	w.has(nil, nil)
	if b, e := w.hot.Get("index"); e != api.OK || len(b) != 9 {
		t.Errorf("no index was committed: %d", e)
	}
	w.save("a", "b")
	w.save("c")
	w.keep(1, dir(t))
	w.forget()
	w.run(0, 100, 100, false, prune.Report{Dropped: 2}, 5, 1)
	w.has(nil, nil)
	w.run(0, -1, 100, false, prune.Report{}, 3, 1)
	w.has(nil, nil)
}

func TestRunByHand(t *testing.T) {
	w := empty(t, 0)
	root := dir(t, "live in one", "live in two")
	one := w.save(root, "live in one")
	w.save("dead", "live in two", "dead, too")
	w.save("dead in three")
	w.keep(5, root)
	_, fresh, _ := packed(t, "live in two")
	// The snapshots' List and a Get, the root, the blob, the new pack, the index, a List, and two Drops.
	w.run(9, 0, 1000, false, prune.Report{Dropped: 2, Repacked: 1, Blobs: 1}, 9, 1)
	w.has([]api.ID{one, fresh}, nil)
	// Behind it nothing is wasted.
	w.run(9, 0, 1000, false, prune.Report{}, 5, 1)
	w.has([]api.ID{one, fresh}, nil)
	// If less than nothing may be wasted all is repacked, as one.
	list := []string{root, "live in one", "live in two"}
	if slices.Equal(sorted(one, fresh), []api.ID{fresh, one}) {
		list = []string{"live in two", root, "live in one"}
	}
	_, last, _ := packed(t, list...)
	w.run(9, -1, 1000, false, prune.Report{Dropped: 2, Repacked: 2, Blobs: 3}, 11, 1)
	w.has([]api.ID{last}, nil)
	// What is repacked as it was stays.
	w.run(9, -1, 1000, false, prune.Report{Repacked: 1, Blobs: 3}, 9, 1)
	w.has([]api.ID{last}, nil)
}

// wasted is a world of a hot pack that is live, one that is to be repacked, a dead one, and two dead cold ones (rising); and of what is to come, the new pack.
type wasted struct {
	*world
	live, half, dead, fresh api.ID
	colds                   []api.ID
}

func newWasted(t *testing.T) *wasted {
	t.Helper()
	w := &wasted{world: empty(t, 0)}
	root := dir(t, "live in one", "live in two")
	w.live, w.half, w.dead = w.save(root, "live in one"), w.save("dead", "live in two", "dead, too"), w.save("dead in three")
	w.colds = sorted(w.move(w.save("cold"), 0), w.move(w.save("cold, too"), 0))
	w.keep(5, root)
	_, w.fresh, _ = packed(t, "live in two")
	return w
}

// ended tells how it must stand, when so many hot operations were done, and so many cold ones.
func (w *wasted) ended(hot, cold int) {
	w.t.Helper()
	hots := []api.ID{w.live, w.half, w.dead}
	if hot > 4 {
		hots = append(hots, w.fresh)
	}
	for i, id := range sorted(w.half, w.dead) {
		if hot > 7+i {
			hots = slices.DeleteFunc(hots, func(x api.ID) bool { return x == id })
		}
	}
	colds := names(w.colds[max(cold-1, 0):])
	if hot > 5 {
		w.stand(names(hots), colds, []api.ID{w.live, w.fresh}, nil)
	} else {
		w.stand(names(hots), colds, []api.ID{w.live, w.half, w.dead}, w.colds)
	}
}

func TestWhateverOperationFails(t *testing.T) {
	for n := range 13 {
		// In the hot store the snapshots' List and a Get, the root, the blob, the new pack, the index, a List, and two Drops; then in the cold one a List, and two Drops.
		hot, cold := min(n, 9), max(n-9, 0)
		fault := arms{power: -1, hot: append(make([]bool, n), n < 9), ice: append(make([]bool, cold), n >= 9)}
		for want, a := range map[api.Errno]arms{api.ErrFault: fault, api.ErrCrash: {power: n}} {
			w := newWasted(t)
			report := prune.Report{}
			if n == 12 {
				want, report = api.OK, prune.Report{Dropped: 4, Repacked: 1, Blobs: 1}
			}
			got, e := w.do(a, func() (prune.Report, api.Errno) { return prune.Run(w.Depot, 10, 0, 1000, false) })
			if e != want || got != report {
				t.Errorf("behind %d: %v %d, not %d", n, got, e, want)
			}
			w.ended(hot, cold)
			w.reopen()
			w.ended(hot, cold)
			// It is gone on with.
			if _, e := prune.Run(w.Depot, 10, 0, 1000, false); e != api.OK {
				t.Errorf("behind %d: %d", n, e)
			}
			w.has([]api.ID{w.live, w.fresh}, nil)
		}
	}
}

func TestBlobsOfACacheAreNotGot(t *testing.T) {
	w := empty(t, 1000)
	root := dir(t, "live")
	w.save(root, "dead", "live")
	w.keep(5, root)
	if _, e := w.Load(sum("live"), 0); e != api.OK {
		t.Fatal(e)
	}
	_, fresh, _ := packed(t, root, "live")
	// The root is got once, and is kept then.
	w.run(0, 0, 1000, false, prune.Report{Dropped: 1, Repacked: 1, Blobs: 2}, 7, 1)
	w.has([]api.ID{fresh}, nil)
	// What is spoilt in the cache is got anew.
	w.Cache().Spoil(sum(root), 3)
	w.run(0, -1, 1000, false, prune.Report{Repacked: 1, Blobs: 2}, 6, 1)
	w.has([]api.ID{fresh}, nil)
}

func TestTargets(t *testing.T) {
	a, b, c := strings.Repeat("a", 10), strings.Repeat("b", 20), strings.Repeat("c", 30)
	root := dir(t, a, b, c)
	one, two := 13+36+len(root), 13+36*2+len(root)+10
	for i, x := range []struct {
		target int
		want   [][]string
	}{
		{math.MinInt, [][]string{{root}, {a}, {b}, {c}}},
		{-1, [][]string{{root}, {a}, {b}, {c}}},
		{0, [][]string{{root}, {a}, {b}, {c}}},
		{1, [][]string{{root}, {a}, {b}, {c}}},
		{13 + 36 + 10, [][]string{{root}, {a}, {b}, {c}}},
		{13 + 36 + 11, [][]string{{root}, {a, b}, {c}}},
		{one, [][]string{{root}, {a, b, c}}},
		{one + 1, [][]string{{root, a}, {b, c}}},
		{two, [][]string{{root, a}, {b, c}}},
		{two + 1, [][]string{{root, a, b}, {c}}},
		{two + 56 + 66, [][]string{{root, a, b, c}}},
		{two + 56 + 67, [][]string{{root, a, b, c}}},
		{math.MaxInt, [][]string{{root, a, b, c}}},
	} {
		w := empty(t, 0)
		w.save("dead", root, a, b, c)
		w.keep(1, root)
		var want []api.ID
		for _, list := range x.want {
			_, id, _ := packed(t, list...)
			want = append(want, id)
		}
		// Each blob is got, each new pack put.
		w.run(0, 0, x.target, false, prune.Report{Dropped: 1, Repacked: 1, Blobs: 4}, 10+len(want), 1)
		w.has(want, nil)
		if t.Failed() {
			t.Fatalf("case %d", i)
		}
	}
}

// long is a blob that is as long as may be, unlike others.
func long(n int) string {
	return strconv.Itoa(1e6+n) + strings.Repeat("x", 1<<16-7)
}

// filled is the packs of blobs, of which each has as many as there is room for, one behind the other.
func filled(t *testing.T, blobs []string) []api.ID {
	t.Helper()
	var all []api.ID
	var list []string
	size := 13
	put := func() {
		_, id, _ := packed(t, list...)
		all = append(all, id)
		list, size = nil, 13
	}
	for _, b := range blobs {
		if size+36+len(b) > 1<<20 {
			put()
		}
		list = append(list, b)
		size += 36 + len(b)
	}
	put()
	return all
}

func TestANewPackThatIsFull(t *testing.T) {
	w := empty(t, 0)
	var blobs []string
	for n := range 40 {
		blobs = append(blobs, long(n))
	}
	root := dir(t, blobs...)
	w.keep(1, root)
	lists := map[api.ID][]string{}
	for _, list := range [][]string{blobs[:15], blobs[15:29], blobs[29:], {root}} {
		lists[w.save(list...)] = list
	}
	var all []string
	for id := range w.Index().Packs() {
		all = append(all, lists[id]...)
	}
	want := filled(t, all)
	if len(want) != 3 {
		t.Fatalf("%d packs", len(want))
	}
	report, e := prune.Run(w.Depot, 0, -1, math.MaxInt, false)
	if e != api.OK || report.Repacked != 4 || report.Blobs != 41 {
		t.Errorf("%v %d", report, e)
	}
	w.has(want, nil)
}

func TestMoreBlobsThanAPackHas(t *testing.T) {
	w := empty(t, 1<<20)
	var blobs []string
	for n := range 4095 {
		blobs = append(blobs, strconv.Itoa(n))
	}
	// All snapshots together have more than a pack may have.
	roots := []string{dir(t, blobs[:1400]...), dir(t, blobs[1400:2800]...), dir(t, blobs[2800:]...)}
	w.save(blobs...)
	w.save(roots...)
	for i, root := range roots {
		w.keep(int64(i), root)
	}
	before := w.hot.Len()
	w.refused(0, -1, math.MaxInt, false, api.ErrMany)
	if w.hot.Len() != before || w.Index().Len() != 2 {
		t.Error("what failed turned something")
	}
	report, e := prune.Run(w.Depot, 0, -1, 1<<17, false)
	if e != api.OK || report.Repacked != 2 || report.Blobs != 4098 {
		t.Errorf("%v %d", report, e)
	}
	live, e := prune.Live(w.Depot, 0)
	if x := w.Index(); e != api.OK || len(live) != 4098 || !slices.Equal(live, slices.Collect(x.Blobs())) {
		t.Errorf("%d live ones, %d", len(live), e)
	}
}

func TestColdPacks(t *testing.T) {
	for _, c := range []struct {
		now    int64
		force  bool
		report prune.Report
		lost   int64
	}{
		// Packs that were put at 0, 5 and 9, of which that of 5 has a live blob; and what is no pack's: put at 2 and 6.
		{8, false, prune.Report{}, 0},
		{9, false, prune.Report{}, 0},
		{10, false, prune.Report{Dropped: 1}, 0},
		{12, false, prune.Report{Dropped: 2}, 0},
		{15, false, prune.Report{Dropped: 2}, 0},
		{16, false, prune.Report{Dropped: 3}, 0},
		{18, false, prune.Report{Dropped: 3}, 0},
		{19, false, prune.Report{Dropped: 4}, 0},
		{99, false, prune.Report{Dropped: 4}, 0},
		{9, true, prune.Report{Dropped: 4}, 1 + 10 + 3 + 7},
		{15, true, prune.Report{Dropped: 4}, 4 + 1},
		{99, true, prune.Report{Dropped: 4}, 0},
		{math.MaxInt64, false, prune.Report{Dropped: 4}, 0},
		{math.MinInt64, true, prune.Report{Dropped: 4}, 10 + 19 + 12 + 16},
	} {
		w := empty(t, 0)
		root := dir(t, "live")
		hot := w.save(root)
		zero := w.move(w.save("dead in zero"), 0)
		five := w.move(w.save("live", "dead in five"), 5)
		nine := w.move(w.save("dead in nine", "dead in nine, too"), 9)
		w.keep(1, root)
		b, id, _ := packed(t, "no pack of the index")
		w.must(w.ice.Put(named(id), b, 2))
		w.must(w.ice.Put("pack/x", nil, 6))
		w.must(w.ice.Put("other/x", nil, 0))
		// Not forced, each that is no pack's is asked for; of the index's those that go alone.
		went := c.report.Dropped
		ops := w.ice.Ops()
		report, e := prune.Run(w.Depot, c.now, 0, 100, c.force)
		if e != api.OK || report != c.report {
			t.Errorf("at %d: %v %d, not %v", c.now, report, e, c.report)
		}
		kept, left := []api.ID{five}, []string{named(five)}
		asked := 1 + 2
		for _, p := range []struct {
			id    api.ID
			since int64
		}{{zero, 0}, {nine, 9}} {
			if !c.force && c.now < p.since+10 {
				kept, left = append(kept, p.id), append(left, named(p.id))
			} else {
				asked++
			}
		}
		if !c.force && c.now < 12 {
			left = append(left, named(id))
		}
		if !c.force && c.now < 16 {
			left = append(left, "pack/x")
		}
		if w.ice.Ops() != ops+asked || len(left)+went != 5 {
			t.Errorf("at %d: %d operations, not %d; %d are left", c.now, w.ice.Ops()-ops, asked, len(left))
		}
		if w.ice.Lost() != c.lost {
			t.Errorf("at %d: %d were lost, not %d", c.now, w.ice.Lost(), c.lost)
		}
		w.stand([]string{named(hot)}, left, []api.ID{hot}, kept)
		if list, e := w.ice.List("other/"); e != api.OK || len(list) != 1 {
			t.Error("what is no pack's name went")
		}
	}
}

func TestWhatIsNoPackOfTheIndexGoes(t *testing.T) {
	w := empty(t, 0)
	root := dir(t, "live")
	id := w.save(root, "live")
	w.keep(1, root)
	b, other, _ := packed(t, "other")
	digits := sha.Text(id)
	for _, name := range []string{named(other), "pack/", "pack/" + digits[1:], "pack/" + digits + "0", "pack/" + strings.ToUpper(digits), "pack/pack/" + digits} {
		w.must(w.hot.Put(name, b))
	}
	for _, name := range []string{"pack", "pack-x", "packs/" + digits, "move/" + digits, "lock/x", "snap/junk"} {
		w.must(w.hot.Put(name, b))
	}
	w.run(0, 0, 100, false, prune.Report{Dropped: 6}, 6+6, 1)
	w.has([]api.ID{id}, nil)
	if w.hot.Len() != 1+1+1+6 {
		t.Errorf("%d things are left", w.hot.Len())
	}
}

func TestAPackOfTheIndexStaysInBothStores(t *testing.T) {
	w := empty(t, 0)
	root := dir(t, "live", "cold")
	hot, away := w.save(root, "live"), w.save("cold")
	w.keep(1, root)
	first, _, _ := packed(t, root, "live")
	w.must(w.ice.Put(named(hot), first, 0))
	w.move(away, 0)
	second, _, _ := packed(t, "cold")
	w.must(w.hot.Put(named(away), second))
	w.run(99, 0, 100, true, prune.Report{}, 5, 1)
	w.stand(names([]api.ID{hot, away}), names([]api.ID{hot, away}), []api.ID{hot}, []api.ID{away})
}

func TestANewPackThatTheIndexHas(t *testing.T) {
	w := empty(t, 0)
	// The cold pack has a blob of its own kind, as it would be packed anew; it is kept, since it is young.
	root := dir(t, "live")
	w.save(root)
	w.keep(1, root)
	away := w.move(w.save("live"), 0)
	w.save("dead", "live")
	report, e := prune.Run(w.Depot, 5, 0, 1, false)
	if e != api.OK || report != (prune.Report{Dropped: 1, Repacked: 1, Blobs: 1}) {
		t.Errorf("%v %d", report, e)
	}
	_, first, _ := packed(t, root)
	w.stand(names([]api.ID{first, away}), names([]api.ID{away}), []api.ID{first}, []api.ID{away})
	// If it is dropped, it comes anew, as a hot one.
	w = empty(t, 0)
	w.save(root)
	w.keep(1, root)
	w.move(w.save("live"), 0)
	w.save("dead", "live")
	report, e = prune.Run(w.Depot, 10, 0, 1, false)
	if e != api.OK || report != (prune.Report{Dropped: 1, Repacked: 1, Blobs: 1}) {
		t.Errorf("%v %d", report, e)
	}
	w.stand(names([]api.ID{first, away}), names([]api.ID{away}), []api.ID{first, away}, nil)
}
