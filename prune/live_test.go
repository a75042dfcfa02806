package prune_test

import (
	"math"
	"slices"
	"strconv"
	"strings"
	"testing"

	"coldstore/api"
	"coldstore/guard"
	"coldstore/prune"
	"coldstore/tree"
)

// lives tells which blobs are live, and how many operations tell it.
func (w *world) lives(now int64, want []api.ID, hot, ice int) {
	w.t.Helper()
	hot, ice = hot+w.hot.Ops(), ice+w.ice.Ops()
	if got, e := prune.Live(w.Depot, now); e != api.OK || !slices.Equal(got, sorted(want...)) {
		w.t.Errorf("Live: %d of them, %d, not %d", len(got), e, len(want))
	}
	if w.hot.Ops() != hot || w.ice.Ops() != ice {
		w.t.Errorf("Live: %d hot operations too many, %d cold ones", w.hot.Ops()-hot, w.ice.Ops()-ice)
	}
}

// fails tells with which error Live ends.
func (w *world) fails(now int64, want api.Errno) {
	w.t.Helper()
	if got, e := prune.Live(w.Depot, now); e != want || len(got) != 0 {
		w.t.Errorf("Live: %v %d, not %d", got, e, want)
	}
}

// sums is the sums of blobs.
func sums(blobs ...string) []api.ID {
	var all []api.ID
	for _, b := range blobs {
		all = append(all, sum(b))
	}
	return all
}

func TestLive(t *testing.T) {
	w := empty(t, 0)
	w.lives(0, nil, 1, 0)
	one, two, none := dir(t, "a", "b", "a"), dir(t, "b", "c", ""), dir(t)
	w.save(one, "a", "b", "dead")
	// Without a snapshot nothing is live.
	w.lives(0, nil, 1, 0)
	w.keep(5, one)
	w.lives(0, sums(one, "a", "b"), 3, 0)
	w.save("c", "", two, none)
	w.keep(3, two)
	w.lives(0, sums(one, two, "a", "b", "c", ""), 5, 0)
	name := w.keep(9, none)
	w.lives(0, sums(one, two, none, "a", "b", "c", ""), 7, 0)
	// A tree is loaded for each snapshot that has it.
	w.keep(7, one)
	w.lives(0, sums(one, two, none, "a", "b", "c", ""), 9, 0)
	// What isn't listed makes no difference.
	w.must(w.hot.Put("snap/junk", []byte("junk")))
	w.lives(0, sums(one, two, none, "a", "b", "c", ""), 10, 0)
	w.must(w.hot.Drop(name))
	w.lives(0, sums(one, two, "a", "b", "c", ""), 8, 0)
	w.forget()
	w.lives(0, nil, 2, 0)
}

func TestLiveBlobsOfDirectories(t *testing.T) {
	w := empty(t, 1<<20)
	low := dir(t, "a", "b")
	b, e := tree.Encode([]tree.Node{{Name: "d", Dir: true, Sub: sum(low)}, {Name: "e", Dir: true, Sub: sum(low)}, {Name: "f", Size: 1, Parts: sums("c")}})
	w.must(e)
	top := string(b)
	w.save(low, top)
	w.keep(5, top)
	// Chunks aren't asked for: the index hasn't these.
	w.lives(0, sums(top, low, "a", "b", "c"), 4, 0)
	// From the cache nothing is got.
	w.lives(0, sums(top, low, "a", "b", "c"), 2, 0)
}

func TestLiveOfColdTrees(t *testing.T) {
	w := empty(t, 0)
	root := dir(t, "a")
	id := w.move(w.save(root, "a"), 0)
	w.keep(1, root)
	w.fails(0, api.ErrThaw)
	w.refused(0, 0, 1, false, api.ErrThaw)
	w.must(w.ice.Request(named(id), 0, 10))
	w.fails(9, api.ErrThaw)
	w.lives(10, sums(root, "a"), 2, 1)
	w.run(10, 0, 1, false, prune.Report{}, 4, 2)
	w.has(nil, []api.ID{id})
	w.lives(1009, sums(root, "a"), 2, 1)
	w.fails(1010, api.ErrThaw)
	w.fails(math.MaxInt64, api.ErrThaw)
	w.fails(math.MinInt64, api.ErrThaw)
}

func TestTheFirstErrorEndsLive(t *testing.T) {
	gone, junk := dir(t, "gone"), "junk that is no tree"
	for _, c := range []struct {
		gone, junk int64
		want       api.Errno
	}{{3, 4, api.ErrNone}, {4, 3, api.ErrSum}, {9, 4, api.ErrSum}, {0, 4, api.ErrNone}} {
		w := empty(t, 0)
		root := dir(t, "a")
		w.save(root, junk)
		w.keep(1, root)
		w.keep(c.gone, gone)
		w.keep(c.junk, junk)
		w.fails(0, c.want)
		before := w.hot.Len()
		w.refused(0, 100, 1, true, c.want)
		if w.hot.Len() != before {
			t.Errorf("what failed turned something")
		}
	}
}

func TestLiveOfASnapshotOfTooManyBlobs(t *testing.T) {
	for n, want := range map[int]api.Errno{4092: api.OK, 4093: api.ErrMany} {
		w := empty(t, 1<<20)
		var nodes []tree.Node
		for at := 0; at < n; at += 1400 {
			var chunks []string
			for i := range min(1400, n-at) {
				chunks = append(chunks, strconv.Itoa(at+i))
			}
			low := dir(t, chunks...)
			w.save(low)
			nodes = append(nodes, tree.Node{Name: strconv.Itoa(at), Dir: true, Sub: sum(low)})
		}
		slices.SortFunc(nodes, func(a, b tree.Node) int { return strings.Compare(a.Name, b.Name) })
		b, e := tree.Encode(nodes)
		w.must(e)
		w.save(string(b))
		w.keep(1, string(b))
		if live, e := prune.Live(w.Depot, 0); e != want || e == api.OK && len(live) != 4096 || e != api.OK && len(live) > 0 {
			t.Errorf("%d chunks: %d of them, %d", n, len(live), e)
		}
	}
}

func TestAFaultEndsLive(t *testing.T) {
	for n := range 6 {
		w := empty(t, 0)
		one, two := dir(t, "a"), dir(t, "b")
		w.save(one, two)
		w.keep(1, one)
		w.keep(2, two)
		ops := w.hot.Ops()
		w.hot.Arm(nil, append(make([]bool, n), true))
		if n == 5 {
			w.lives(0, sums(one, two, "a", "b"), 5, 0)
			continue
		}
		w.fails(0, api.ErrFault)
		if w.hot.Ops() != ops+n+1 {
			t.Errorf("a fault behind %d: %d operations", n, w.hot.Ops()-ops)
		}
		fuse := guard.NewFuse(n)
		w.hot.Arm(fuse, nil)
		through := true
		blew := fuse.Catch(func() {
			guard.Run(func() { prune.Live(w.Depot, 0) })
			through = false
		})
		if !blew || !through {
			t.Errorf("the power goes behind %d: %v %v", n, blew, through)
		}
	}
	w := empty(t, 0)
	root := dir(t, "a")
	w.move(w.save(root), 0)
	w.keep(1, root)
	w.ice.Arm(nil, []bool{true})
	w.fails(0, api.ErrFault)
}
