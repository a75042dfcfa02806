package thaw_test

import (
	"math"
	"slices"
	"testing"

	"coldstore/api"
	"coldstore/cold"
	"coldstore/guard"
	"coldstore/index"
	"coldstore/pack"
	"coldstore/sha"
	"coldstore/thaw"
)

// ids is sums of which nothing but the first byte is told.
func ids(list ...byte) []api.ID {
	var all []api.ID
	for _, b := range list {
		all = append(all, api.ID{b})
	}
	return all
}

// named is the name of the pack of a sum.
func named(id api.ID) string {
	return "pack/" + sha.Text(id)
}

// needs tells which packs blobs need, and that the index and the list of blobs stay as they are.
func needs(t *testing.T, x *index.Index, blobs, want []api.ID) {
	t.Helper()
	before, list := x.Encode(), slices.Clone(blobs)
	if got := thaw.Needed(x, blobs); !slices.Equal(got, want) {
		t.Errorf("of %d blobs %x, not %x", len(blobs), got, want)
	}
	if !slices.Equal(list, blobs) || !slices.Equal(before, x.Encode()) {
		t.Error("what was handed in is turned")
	}
}

// put lets an index have a pack.
func put(t *testing.T, x *index.Index, id byte, cold bool, blobs ...byte) {
	t.Helper()
	var list []pack.Entry
	for _, b := range blobs {
		list = append(list, pack.Entry{ID: api.ID{b}})
	}
	if e := x.Put(api.ID{id}, cold, list); e != api.OK {
		t.Fatal(e)
	}
}

func TestNeeded(t *testing.T) {
	var x index.Index
	needs(t, &x, nil, nil)
	needs(t, &x, ids(1, 2), nil)
	put(t, &x, 9, true, 1, 2)
	put(t, &x, 5, true, 3)
	put(t, &x, 7, true, 4)
	put(t, &x, 1, false, 5)
	put(t, &x, 8, true)
	for _, c := range []struct{ blobs, want []api.ID }{
		{nil, nil},
		{[]api.ID{}, nil},
		{ids(1), ids(9)},
		{ids(3), ids(5)},
		// Packs rise, whatever the order of blobs is; each is there once.
		{ids(1, 2, 4, 3), ids(5, 7, 9)},
		{ids(3, 4, 2, 1), ids(5, 7, 9)},
		{ids(1, 2, 1, 1, 2), ids(9)},
		{ids(3, 3, 1, 3), ids(5, 9)},
		// Those of hot ones, and those that it hasn't, need none; nor does a pack's own sum.
		{ids(5), nil},
		{ids(77, 0, 5, 9, 7), nil},
		{ids(77, 4, 5, 77), ids(7)},
	} {
		needs(t, &x, c.blobs, c.want)
	}
}

func TestNeededGoesByPlaces(t *testing.T) {
	var x index.Index
	put(t, &x, 3, true, 1, 2, 4)
	put(t, &x, 6, true, 1, 2, 3, 4)
	needs(t, &x, ids(1), ids(3))
	needs(t, &x, ids(1, 2, 3, 4), ids(3, 6))
	// A hot pack is ahead of all cold ones, whatever its sum is.
	put(t, &x, 9, false, 2)
	needs(t, &x, ids(2), nil)
	needs(t, &x, ids(2, 1), ids(3))
	x.Move(api.ID{3}, false)
	needs(t, &x, ids(1, 2, 4), nil)
	needs(t, &x, ids(1, 2, 3, 4), ids(6))
	x.Move(api.ID{9}, true)
	x.Drop(api.ID{3})
	needs(t, &x, ids(2), ids(6))
	x.Drop(api.ID{6})
	needs(t, &x, ids(1, 2, 3), ids(9))
}

func TestSumsAreHeldAgainstEachOtherByteByByte(t *testing.T) {
	var x index.Index
	one, two := api.ID{1, 0, 255}, api.ID{1, 1}
	last := api.ID{1, 1}
	last[31] = 1
	blobs := ids(1, 2, 3)
	for i, id := range []api.ID{last, one, two} {
		if e := x.Put(id, true, []pack.Entry{{ID: blobs[i]}}); e != api.OK {
			t.Fatal(e)
		}
	}
	needs(t, &x, blobs, []api.ID{one, two, last})
}

func TestNeededIsNewMemory(t *testing.T) {
	var x index.Index
	put(t, &x, 3, true, 1)
	put(t, &x, 4, true, 2)
	got := thaw.Needed(&x, ids(1, 2))
	clear(got[:cap(got)])
	needs(t, &x, ids(1, 2), ids(3, 4))
}

// store is a cold store, in which what is thawed lives for 5, that has a thing for each of these packs.
func store(t *testing.T, jobs int, packs ...byte) *cold.Store {
	t.Helper()
	c, e := cold.New(1000, jobs, 5, 0)
	if e != api.OK {
		t.Fatal(e)
	}
	for _, id := range ids(packs...) {
		if e := c.Put(named(id), []byte{1}, 0); e != api.OK {
			t.Fatal(e)
		}
	}
	return c
}

// request asks for a pack.
func request(t *testing.T, c *cold.Store, id byte, now, wait int64) {
	t.Helper()
	if e := c.Request(named(api.ID{id}), now, wait); e != api.OK {
		t.Fatal(e)
	}
}

// looks tells what packs must be, which is told without an operation, whatever faults, and the power's going, are to come.
func looks(t *testing.T, c *cold.Store, packs []api.ID, now int64, frozen, pending, ready []api.ID) {
	t.Helper()
	c.Arm(guard.NewFuse(0), []bool{true})
	list, ops := slices.Clone(packs), c.Ops()
	s := thaw.Look(c, packs, now)
	c.Arm(nil, nil)
	if !slices.Equal(s.Frozen, frozen) || !slices.Equal(s.Pending, pending) || !slices.Equal(s.Ready, ready) {
		t.Errorf("at %d: %x", now, s)
	}
	if c.Ops() != ops || !slices.Equal(list, packs) {
		t.Error("Look turns something")
	}
}

func TestLook(t *testing.T) {
	c := store(t, 9, 1, 2, 3, 4)
	looks(t, c, nil, 0, nil, nil, nil)
	looks(t, c, ids(1, 2, 3, 4), 0, ids(1, 2, 3, 4), nil, nil)
	request(t, c, 2, 0, 3)
	request(t, c, 4, 0, 3)
	request(t, c, 1, 0, 6)
	for _, at := range []struct {
		now                    int64
		frozen, pending, ready []api.ID
	}{
		{math.MinInt64, ids(3), ids(1, 2, 4), nil},
		{0, ids(3), ids(1, 2, 4), nil},
		{2, ids(3), ids(1, 2, 4), nil},
		{3, ids(3), ids(1), ids(2, 4)},
		{6, ids(3), nil, ids(1, 2, 4)},
		{7, ids(3), nil, ids(1, 2, 4)},
		{8, ids(2, 3, 4), nil, ids(1)},
		{11, ids(1, 2, 3, 4), nil, nil},
		{math.MaxInt64, ids(1, 2, 3, 4), nil, nil},
	} {
		looks(t, c, ids(1, 2, 3, 4), at.now, at.frozen, at.pending, at.ready)
	}
	// They stay in the order in which they stand, and come as often.
	looks(t, c, ids(4, 3, 1, 2, 3, 1, 4), 3, ids(3, 3), ids(1, 1), ids(4, 2, 4))
	// Those that the store hasn't are frozen.
	looks(t, c, ids(9, 3, 8, 2), 3, ids(9, 3, 8), nil, ids(2))
	c.Drop(named(api.ID{2}), 3, false)
	looks(t, c, ids(1, 2, 3, 4), 3, ids(2, 3), ids(1), ids(4))
	c.Fail(named(api.ID{1}), 3)
	looks(t, c, ids(1, 2, 3, 4), 3, ids(1, 2, 3), nil, ids(4))
}

func TestLookGoesByPacksNames(t *testing.T) {
	c := store(t, 9)
	id := api.ID{1}
	for _, name := range []string{sha.Text(id), "pack", "pack/", named(id) + "0", "x" + named(id)} {
		if c.Put(name, nil, 0) != api.OK || c.Request(name, 0, 0) != api.OK {
			t.Fatal(name)
		}
	}
	looks(t, c, ids(1), 0, ids(1), nil, nil)
}

func TestLookIsNewMemory(t *testing.T) {
	c := store(t, 9, 1, 2, 3)
	request(t, c, 2, 0, 3)
	request(t, c, 3, 0, 0)
	packs := ids(1, 2, 3, 1, 2, 3)
	s := thaw.Look(c, packs, 0)
	clear(packs)
	for _, list := range [][]api.ID{s.Frozen, s.Pending} {
		clear(list[:cap(list)])
	}
	if !slices.Equal(s.Ready, ids(3, 3)) {
		t.Error("lists share memory")
	}
	looks(t, c, ids(1, 2, 3), 0, ids(1), ids(2), ids(3))
}

// pair is a pack, and what it is.
type pair struct {
	id   api.ID
	what int
}

// pairs is all that All goes through, until it has so many (below 0: all).
func pairs(s thaw.State, most int) []pair {
	var list []pair
	for id, what := range thaw.All(s) {
		if len(list) == most {
			break
		}
		list = append(list, pair{id, what})
	}
	return list
}

func TestAll(t *testing.T) {
	for _, c := range []struct {
		s    thaw.State
		want []pair
	}{
		{thaw.State{}, nil},
		{thaw.State{Frozen: []api.ID{}, Pending: []api.ID{}, Ready: []api.ID{}}, nil},
		{thaw.State{Frozen: ids(3, 1)}, []pair{{api.ID{3}, 0}, {api.ID{1}, 0}}},
		{thaw.State{Pending: ids(3, 1)}, []pair{{api.ID{3}, 1}, {api.ID{1}, 1}}},
		{thaw.State{Ready: ids(3, 1)}, []pair{{api.ID{3}, 2}, {api.ID{1}, 2}}},
		// Packs are told as they stand, though they be there twice.
		{thaw.State{ids(7, 2), ids(1, 7), ids(9, 9, 0)}, []pair{{api.ID{7}, 0}, {api.ID{2}, 0}, {api.ID{1}, 1}, {api.ID{7}, 1}, {api.ID{9}, 2}, {api.ID{9}, 2}, {api.ID{}, 2}}},
	} {
		for n := range len(c.want) + 1 {
			if got := pairs(c.s, n); !slices.Equal(got, c.want[:n]) {
				t.Errorf("%v, stopped behind %d: %v", c.s, n, got)
			}
		}
		if got := pairs(c.s, -1); !slices.Equal(got, c.want) {
			t.Errorf("%v: %v", c.s, got)
		}
	}
}

func TestAllMayBeGoneThroughAgain(t *testing.T) {
	s := thaw.State{ids(1, 2), ids(3), ids(4, 5)}
	all := thaw.All(s)
	clear(s.Frozen)
	clear(s.Pending)
	clear(s.Ready)
	s = thaw.State{}
	for range 3 {
		n, want := byte(0), []int{0, 0, 1, 2, 2}
		for id, what := range all {
			if id != (api.ID{n + 1}) || what != want[n] {
				t.Errorf("at %d: %x %d", n, id, what)
			}
			n++
			for range all {
				break
			}
		}
		if n != 5 {
			t.Errorf("%d of 5", n)
		}
	}
}
