package plan_test

import (
	"math"
	"math/rand"
	"slices"
	"testing"

	"coldstore/api"
	"coldstore/cold"
	"coldstore/guard"
	"coldstore/plan"
	"coldstore/sha"
	"coldstore/thaw"
)

// named is the name of the pack of a sum.
func named(id api.ID) string {
	return "pack/" + sha.Text(id)
}

// store is a cold store, in which what is thawed lives for 5, that has a thing for each of these packs.
func store(t *testing.T, jobs int, packs ...byte) *cold.Store {
	t.Helper()
	c, e := cold.New(1000, jobs, 5, 0)
	if e != api.OK {
		t.Fatal(e)
	}
	for _, id := range ids(packs...) {
		if e := c.Put(named(id), []byte{1}, 0); e != api.OK {
			t.Fatal(e)
		}
	}
	return c
}

// batch is items of these packs, of whatever sizes.
func batch(packs ...byte) []plan.Item {
	var items []plan.Item
	for i, id := range packs {
		items = append(items, sized(id, []int{7, 0, -1, math.MaxInt}[i%4]))
	}
	return items
}

// asks tells how many packs must be asked for, with which error, and behind how many operations.
func asks(t *testing.T, c *cold.Store, items []plan.Item, now, wait int64, n int, want api.Errno, ops int) {
	t.Helper()
	kept := append(slices.Clone(items), sized(99, 1))
	list, ahead := slices.Clone(kept), c.Ops()
	if got, e := plan.Ask(c, list[:len(items)], now, wait); got != n || e != want {
		t.Errorf("%v at %d: %d %d, not %d %d", items, now, got, e, n, want)
	}
	if c.Ops() != ahead+ops || !slices.Equal(list, kept) {
		t.Errorf("%v at %d: %d operations, not %d", items, now, c.Ops()-ahead, ops)
	}
}

// are tells what each of these packs must be.
func are(t *testing.T, c *cold.Store, now int64, packs []byte, want ...int) {
	t.Helper()
	var got []int
	for _, id := range ids(packs...) {
		got = append(got, c.State(named(id), now))
	}
	if !slices.Equal(got, want) {
		t.Errorf("at %d: %v, not %v", now, got, want)
	}
}

func TestAsk(t *testing.T) {
	all := []byte{3, 1, 2}
	c := store(t, 9, 1, 2, 3, 4)
	asks(t, c, nil, 0, 3, 0, api.OK, 0)
	asks(t, c, []plan.Item{}, 0, -1, 0, api.OK, 0)
	asks(t, c, batch(all[:2]...), 0, 3, 2, api.OK, 2)
	are(t, c, 0, all, 1, 1, 0)
	// Those that aren't frozen aren't asked for.
	asks(t, c, batch(all...), 1, 3, 1, api.OK, 1)
	are(t, c, 3, all, 2, 2, 1)
	asks(t, c, batch(all...), 3, 3, 0, api.OK, 0)
	// It froze again.
	asks(t, c, batch(all...), 8, 3, 2, api.OK, 2)
	are(t, c, 8, []byte{3, 1, 2, 4}, 1, 1, 2, 0)
	// One that stands there twice is asked for twice.
	asks(t, c, batch(4, 4), 8, 3, 2, api.OK, 2)
}

func TestAskIsInOrder(t *testing.T) {
	for jobs := 1; jobs <= 4; jobs++ {
		all := []byte{4, 1, 3, 2}
		c := store(t, jobs, all...)
		want := make([]int, 4)
		for i := range jobs {
			want[i] = 1
		}
		// That there are as many jobs as may be isn't an error; the one that finds it out is an operation.
		asks(t, c, batch(all...), 0, 3, jobs, api.OK, min(jobs+1, 4))
		are(t, c, 0, all, want...)
	}
}

func TestErrorsOfAsk(t *testing.T) {
	c := store(t, 9, 1, 2, 3)
	asks(t, c, batch(7), 0, 3, 0, api.ErrNone, 1)
	asks(t, c, batch(1, 7, 2), 0, 3, 1, api.ErrNone, 2)
	are(t, c, 0, []byte{1, 2, 7}, 1, 0, -1)
	asks(t, c, batch(1, 2), 0, -1, 0, api.ErrArg, 1)
	asks(t, c, batch(1), 0, -1, 0, api.OK, 0)
	for n := range 4 {
		c := store(t, 9, 1, 2, 3)
		c.Arm(nil, append(make([]bool, n), true))
		if n < 3 {
			asks(t, c, batch(1, 2, 3), 0, 3, n, api.ErrFault, n+1)
		} else {
			asks(t, c, batch(1, 2, 3), 0, 3, n, api.OK, n)
		}
		fuse := guard.NewFuse(n)
		c = store(t, 9, 1, 2, 3)
		c.Arm(fuse, nil)
		if blew := fuse.Catch(func() { plan.Ask(c, batch(1, 2, 3), 0, 3) }); blew != (n < 3) {
			t.Errorf("behind %d: %v", n, blew)
		}
		want := make([]int, 3)
		for i := range n {
			want[i] = 1
		}
		are(t, c, 0, []byte{1, 2, 3}, want...)
	}
}

// TestAskIsLayer24s holds it against layer 24's Ask, of a store that is the same.
func TestAskIsLayer24s(t *testing.T) {
	ends := map[api.Errno]int{}
	for seed := range int64(200) {
		r := rand.New(rand.NewSource(seed))
		jobs := 1 + r.Intn(4)
		one, two := store(t, jobs, 0, 1, 2, 3, 4, 5), store(t, jobs, 0, 1, 2, 3, 4, 5)
		now := int64(0)
		for range 40 {
			now += int64(r.Intn(3))
			if r.Intn(9) == 0 {
				faults := append(make([]bool, r.Intn(4)), true)
				one.Arm(nil, faults)
				two.Arm(nil, faults)
			}
			var items []plan.Item
			var packs []api.ID
			for range r.Intn(8) {
				items = append(items, sized(byte(r.Intn(7)), r.Intn(5)))
				packs = append(packs, items[len(items)-1].ID)
			}
			wait := int64(r.Intn(8) - 1)
			n, e := plan.Ask(one, items, now, wait)
			m, f := thaw.Ask(two, packs, len(packs), now, wait)
			if n != m || e != f || one.Ops() != two.Ops() {
				t.Fatalf("seed %d: %d %d, not %d %d; %d operations, not %d", seed, n, e, m, f, one.Ops(), two.Ops())
			}
			ends[e]++
			for id := range byte(7) {
				if one.State(named(api.ID{id}), now) != two.State(named(api.ID{id}), now) {
					t.Fatalf("seed %d: %d is something else", seed, id)
				}
			}
		}
	}
	if ends[api.OK] < 2000 || ends[api.ErrFault] < 50 || ends[api.ErrNone] < 50 || ends[api.ErrArg] < 50 {
		t.Error(ends)
	}
}
