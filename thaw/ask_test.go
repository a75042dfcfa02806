package thaw_test

import (
	"math"
	"math/rand"
	"slices"
	"testing"

	"coldstore/api"
	"coldstore/cold"
	"coldstore/guard"
	"coldstore/index"
	"coldstore/pack"
	"coldstore/thaw"
)

// asks tells how many packs must be asked for, with which error, and behind how many operations.
func asks(t *testing.T, c *cold.Store, packs []api.ID, batch int, now, wait int64, n int, want api.Errno, ops int) {
	t.Helper()
	list, ahead := slices.Clone(packs), c.Ops()
	if got, e := thaw.Ask(c, packs, batch, now, wait); got != n || e != want {
		t.Errorf("%d of %d at %d: %d %d, not %d %d", batch, len(packs), now, got, e, n, want)
	}
	if c.Ops() != ahead+ops || !slices.Equal(list, packs) {
		t.Errorf("%d of %d at %d: %d operations, not %d", batch, len(packs), now, c.Ops()-ahead, ops)
	}
}

func TestAsk(t *testing.T) {
	all := ids(1, 2, 3)
	c := store(t, 9, 1, 2, 3)
	asks(t, c, nil, 5, 0, 3, 0, api.OK, 0)
	asks(t, c, all, 2, 0, 3, 2, api.OK, 2)
	looks(t, c, all, 0, ids(3), ids(1, 2), nil)
	asks(t, c, all, 2, 1, 3, 1, api.OK, 1)
	looks(t, c, all, 3, nil, ids(3), ids(1, 2))
	looks(t, c, all, 4, nil, nil, all)
	// None is asked for twice, until it froze again.
	for now := range int64(8) {
		asks(t, c, all, 9, now, 3, 0, api.OK, 0)
	}
	asks(t, c, all, 9, 8, 3, 2, api.OK, 2)
	looks(t, c, all, 8, nil, ids(1, 2), ids(3))
}

func TestBatches(t *testing.T) {
	all := ids(5, 1, 4, 2)
	for batch, n := range map[int]int{math.MinInt: 0, -1: 0, 0: 0, 1: 1, 3: 3, 4: 4, 5: 4, math.MaxInt: 4} {
		c := store(t, 9, 1, 2, 3, 4, 5)
		asks(t, c, all, batch, 0, 7, n, api.OK, n)
		// They are asked for in the order in which they stand.
		looks(t, c, all, 0, all[n:], all[:n], nil)
		looks(t, c, ids(3), 0, ids(3), nil, nil)
	}
}

func TestABatchIsOfFrozenOnes(t *testing.T) {
	c := store(t, 9, 1, 2, 3, 4, 5, 6)
	request(t, c, 2, 0, 0)
	request(t, c, 1, 0, 9)
	request(t, c, 4, 0, 9)
	all := ids(1, 2, 3, 4, 5, 6)
	asks(t, c, all, 2, 0, 1, 2, api.OK, 2)
	looks(t, c, all, 0, ids(6), ids(1, 3, 4, 5), ids(2))
	// What waited longer does so yet.
	looks(t, c, all, 1, ids(6), ids(1, 4), ids(2, 3, 5))
}

func TestAskForWhatIsNotThere(t *testing.T) {
	c := store(t, 9, 1, 2)
	asks(t, c, ids(7), 1, 0, 3, 0, api.ErrNone, 1)
	asks(t, c, ids(1, 7, 2), 1, 0, 3, 1, api.OK, 1)
	asks(t, c, ids(1, 7, 2), 9, 0, 3, 0, api.ErrNone, 1)
	asks(t, c, ids(2, 7, 1), 9, 0, 3, 1, api.ErrNone, 2)
	looks(t, c, ids(1, 2), 0, nil, ids(1, 2), nil)
	asks(t, c, ids(7), 0, 0, 3, 0, api.OK, 0)
}

func TestErrorsOfAsk(t *testing.T) {
	all := ids(1, 2, 3)
	for _, wait := range []int64{-1, math.MinInt64} {
		c := store(t, 9, 1, 2, 3)
		asks(t, c, all, 9, 0, wait, 0, api.ErrArg, 1)
		asks(t, c, all, 0, 0, wait, 0, api.OK, 0)
		looks(t, c, all, 0, all, nil, nil)
		// What isn't frozen isn't asked for, so that the wait makes no difference.
		request(t, c, 1, 0, 3)
		asks(t, c, ids(1), 9, 0, wait, 0, api.OK, 0)
		asks(t, c, ids(1), 9, 3, wait, 0, api.OK, 0)
		asks(t, c, ids(1), 9, 8, wait, 0, api.ErrArg, 1)
	}
	for n := range 4 {
		c := store(t, 9, 1, 2, 3)
		c.Arm(nil, append(make([]bool, n), true))
		if n < 3 {
			asks(t, c, all, 9, 0, 3, n, api.ErrFault, n+1)
		} else {
			asks(t, c, all, 9, 0, 3, n, api.OK, n)
		}
		c.Arm(nil, nil)
		looks(t, c, all, 0, all[n:], all[:n], nil)
		asks(t, c, all, 9, 0, 3, 3-n, api.OK, 3-n)
	}
}

func TestThePowerGoesWithinAsk(t *testing.T) {
	all := ids(1, 2, 3)
	for n := range 4 {
		c := store(t, 9, 1, 2, 3)
		fuse := guard.NewFuse(n)
		c.Arm(fuse, nil)
		through := true
		blew := fuse.Catch(func() {
			guard.Run(func() { thaw.Ask(c, all, 9, 0, 3) })
			through = false
		})
		if blew != (n < 3) || through != blew {
			t.Errorf("behind %d: %v %v", n, blew, through)
		}
		c.Arm(nil, nil)
		looks(t, c, all, 0, all[n:], all[:n], nil)
	}
}

func TestAsManyJobsAsMayBe(t *testing.T) {
	all := ids(1, 2, 3, 4, 5)
	c := store(t, 2, 1, 2, 3, 4, 5)
	// The one that there is no job for is an operation, too; those behind it aren't asked for.
	asks(t, c, all, 9, 0, 3, 2, api.OK, 3)
	looks(t, c, all, 0, ids(3, 4, 5), ids(1, 2), nil)
	asks(t, c, all, 9, 2, 3, 0, api.OK, 1)
	asks(t, c, all, 1, 3, 3, 1, api.OK, 1)
	asks(t, c, all, 9, 3, 3, 1, api.OK, 2)
	looks(t, c, all, 3, ids(5), ids(3, 4), ids(1, 2))
	// It ends what is asked for, so that another error behind it isn't come to.
	asks(t, c, ids(5, 77), 9, 3, 3, 0, api.OK, 1)
	asks(t, c, ids(77, 5), 9, 3, 3, 0, api.ErrNone, 1)
	// A wait that can't be is looked for ahead of it.
	asks(t, c, ids(5), 9, 3, -1, 0, api.ErrArg, 1)
	// A job that fails makes room for one, and its pack is frozen, so that it is asked for again.
	if !c.Fail(named(api.ID{3}), 4) {
		t.Fatal("no such job")
	}
	asks(t, c, all, 9, 4, 3, 1, api.OK, 2)
	looks(t, c, all, 4, ids(5), ids(3, 4), ids(1, 2))
	// Without a wait a job is done at once.
	asks(t, c, ids(5), 9, 6, 0, 1, api.OK, 1)
	c = store(t, 1, 1, 2, 3, 4, 5)
	asks(t, c, all, 9, 0, 0, 5, api.OK, 5)
	looks(t, c, all, 0, nil, nil, all)
}

func TestWhatStandsThereTwiceIsAskedForTwice(t *testing.T) {
	for wait := range int64(2) {
		c := store(t, 1, 1, 2)
		asks(t, c, ids(1, 1, 1), 9, 0, wait, 3, api.OK, 3)
		asks(t, c, ids(1, 1), 9, 0, wait, 0, api.OK, 0)
		asks(t, c, ids(1, 1), 2, 9, wait, 2, api.OK, 2)
	}
	c := store(t, 9, 1, 2)
	asks(t, c, ids(1, 1, 2), 2, 0, 3, 2, api.OK, 2)
	looks(t, c, ids(1, 2), 0, ids(2), ids(1), nil)
}

func TestTimesAtTheirBounds(t *testing.T) {
	c := store(t, 9, 1, 2, 3)
	asks(t, c, ids(1), 9, math.MinInt64, 3, 1, api.OK, 1)
	looks(t, c, ids(1), 2, nil, ids(1), nil)
	looks(t, c, ids(1), 3, nil, nil, ids(1))
	asks(t, c, ids(2), 9, 1, math.MaxInt64, 1, api.OK, 1)
	looks(t, c, ids(2), api.MaxTime-1, nil, ids(2), nil)
	// At the end of all times nothing lives.
	looks(t, c, ids(2), math.MaxInt64, ids(2), nil, nil)
	asks(t, c, ids(3), 9, math.MaxInt64, 3, 1, api.OK, 1)
	asks(t, c, ids(3), 9, math.MaxInt64, 3, 1, api.OK, 1)
}

// askBy does what the chapter says of Ask, by layer 7 alone.
func askBy(c *cold.Store, packs []api.ID, batch int, now, wait int64) (n int, e api.Errno) {
	var frozen []string
	for _, id := range packs {
		if s := c.State(named(id), now); s <= 0 {
			frozen = append(frozen, named(id))
		}
	}
	for _, name := range frozen {
		if n >= batch {
			return n, api.OK
		}
		if e := c.Request(name, now, wait); e == api.ErrJobs {
			return n, api.OK
		} else if e != api.OK {
			return n, e
		}
		n++
	}
	return n, api.OK
}

// someIDs is some of few sums, chosen at random.
func someIDs(r *rand.Rand, most int) []api.ID {
	var list []api.ID
	for range r.Intn(most + 1) {
		list = append(list, api.ID{byte(r.Intn(10))})
	}
	return list
}

// random is two stores that are the same.
func random(t *testing.T, r *rand.Rand) (*cold.Store, *cold.Store) {
	t.Helper()
	jobs, packs := 1+r.Intn(4), []byte{}
	for id := range 10 {
		if r.Intn(4) > 0 {
			packs = append(packs, byte(id))
		}
	}
	return store(t, jobs, packs...), store(t, jobs, packs...)
}

func TestManyOrdersOfCalls(t *testing.T) {
	ends := map[api.Errno]int{}
	for seed := range int64(400) {
		r := rand.New(rand.NewSource(seed))
		one, two := random(t, r)
		now := int64(0)
		for range 60 {
			now += int64(r.Intn(3))
			if r.Intn(9) == 0 {
				faults := append(make([]bool, r.Intn(4)), true)
				one.Arm(nil, faults)
				two.Arm(nil, faults)
			}
			if r.Intn(5) == 0 {
				name := named(api.ID{byte(r.Intn(10))})
				one.Fail(name, now)
				two.Fail(name, now)
			}
			packs, batch, wait := someIDs(r, 8), r.Intn(6)-1, int64(r.Intn(8)-1)
			n, e := thaw.Ask(one, packs, batch, now, wait)
			m, f := askBy(two, packs, batch, now, wait)
			if n != m || e != f || one.Ops() != two.Ops() {
				t.Fatalf("seed %d: %d %d, not %d %d; %d operations, not %d", seed, n, e, m, f, one.Ops(), two.Ops())
			}
			ends[e]++
			same(t, one, two, now)
		}
	}
	if ends[api.OK] < 5000 || ends[api.ErrFault] < 100 || ends[api.ErrNone] < 100 || ends[api.ErrArg] < 100 {
		t.Error(ends)
	}
}

// same tells that all packs are the same in two stores, and that Look tells what each is.
func same(t *testing.T, one, two *cold.Store, now int64) {
	t.Helper()
	all := ids(0, 1, 2, 3, 4, 5, 6, 7, 8, 9)
	want := map[api.ID]int{}
	for _, id := range all {
		want[id] = max(two.State(named(id), now), 0)
	}
	seen := 0
	for id, what := range thaw.All(thaw.Look(one, all, now)) {
		if want[id] != what {
			t.Fatalf("at %d: %x is %d, not %d", now, id, what, want[id])
		}
		seen++
	}
	if seen != len(all) {
		t.Fatalf("at %d: %d of %d", now, seen, len(all))
	}
}

func TestManyIndexes(t *testing.T) {
	found := 0
	for seed := range int64(600) {
		r := rand.New(rand.NewSource(seed))
		var x index.Index
		for id := range r.Intn(12) {
			var list []pack.Entry
			for _, b := range someIDs(r, 4) {
				list = append(list, pack.Entry{ID: b})
			}
			x.Put(api.ID{byte(255 - id*r.Intn(7)), byte(r.Intn(2))}, r.Intn(3) > 0, list)
		}
		blobs := someIDs(r, 12)
		var want []api.ID
		for _, b := range blobs {
			if p, there := x.Find(b); there && p.Cold {
				want = append(want, p.Pack)
			}
		}
		slices.SortFunc(want, func(a, b api.ID) int { return slices.Compare(a[:], b[:]) })
		want = slices.Compact(want)
		needs(t, &x, blobs, want)
		found += len(want)
	}
	if found < 600 {
		t.Errorf("%d packs", found)
	}
}

// TestNoneIsAskedForThatIsntNeeded is P24.2: of the packs that blobs need each is asked for once, and again only when it froze again.
func TestNoneIsAskedForThatIsntNeeded(t *testing.T) {
	for seed := range int64(200) {
		r := rand.New(rand.NewSource(seed))
		var x index.Index
		c := store(t, 1+r.Intn(4), 0, 1, 2, 3, 4, 5, 6, 7, 8, 9)
		for id := range byte(10) {
			put(t, &x, id, id%4 > 0, id, id/2)
		}
		blobs := someIDs(r, 6)
		needed := thaw.Needed(&x, blobs)
		for now := range int64(40) {
			before := thaw.Look(c, needed, now).Frozen
			n, e := thaw.Ask(c, needed, r.Intn(4), now, int64(r.Intn(6)))
			if e != api.OK || n > len(before) {
				t.Fatalf("seed %d, at %d: %d of %d, %d", seed, now, n, len(before), e)
			}
			for i, id := range before {
				if is := c.State(named(id), now); (is == 0) != (i >= n) {
					t.Fatalf("seed %d, at %d: the frozen one at %d is %d", seed, now, i, is)
				}
			}
			for id := range byte(10) {
				if !slices.Contains(needed, api.ID{id}) && c.State(named(api.ID{id}), now) != 0 {
					t.Fatalf("seed %d, at %d: %d isn't needed", seed, now, id)
				}
			}
		}
	}
}
