package prune_test

import (
	"bytes"
	"math"
	"math/rand"
	"slices"
	"testing"

	"coldstore/api"
	"coldstore/index"
	"coldstore/pack"
	"coldstore/prune"
)

// blob is where a blob stands, of which nothing but its sum's first byte, and how many bytes it has, is told.
func blob(id byte, n int) pack.Entry {
	return pack.Entry{ID: api.ID{id}, Len: n}
}

// ids is sums of which nothing but the first byte is told.
func ids(list ...byte) []api.ID {
	var all []api.ID
	for _, b := range list {
		all = append(all, api.ID{b})
	}
	return all
}

// packs is an index whose packs are put by their sums' first bytes.
type packs struct{ index.Index }

// put lets a pack be there.
func (x *packs) put(t *testing.T, id byte, cold bool, list ...pack.Entry) {
	t.Helper()
	if e := x.Put(api.ID{id}, cold, list); e != api.OK {
		t.Fatalf("pack %d: %d", id, e)
	}
}

// planned tells what becomes of an index's packs.
func planned(t *testing.T, x *index.Index, live []api.ID, waste int, young func(api.ID) bool, want prune.Plan) {
	t.Helper()
	got := prune.Make(x, live, waste, young)
	if !slices.Equal(got.Keep, want.Keep) || !slices.Equal(got.Repack, want.Repack) || !slices.Equal(got.Drop, want.Drop) {
		t.Errorf("waste %d: %v, not %v", waste, got, want)
	}
}

// none and all tell of no pack, and of each, that it is young.
func none(api.ID) bool { return false }
func all(api.ID) bool  { return true }

func TestMakeOfNoPacks(t *testing.T) {
	for _, waste := range []int{-1, 0, 50, 101} {
		planned(t, &index.Index{}, nil, waste, none, prune.Plan{})
		planned(t, &index.Index{}, ids(1, 2), waste, all, prune.Plan{})
	}
}

func TestMakeOfHotPacks(t *testing.T) {
	var x packs
	x.put(t, 9, false, blob(1, 70), blob(2, 30))
	x.put(t, 5, false, blob(3, 1), blob(4, 1), blob(5, 1))
	x.put(t, 7, false, blob(6, 1<<20))
	x.put(t, 3, false)
	for _, c := range []struct {
		live  []api.ID
		waste int
		want  prune.Plan
	}{
		{nil, 100, prune.Plan{Drop: ids(3, 5, 7, 9)}},
		{nil, 0, prune.Plan{Drop: ids(3, 5, 7, 9)}},
		{nil, -1, prune.Plan{Drop: ids(3, 5, 7, 9)}},
		{ids(8, 99), 50, prune.Plan{Drop: ids(3, 5, 7, 9)}},
		{ids(1, 3, 4, 5, 6, 2), 0, prune.Plan{Keep: ids(5, 7, 9), Drop: ids(3)}},
		{ids(1, 3, 4, 5, 6, 2), -1, prune.Plan{Repack: ids(5, 7, 9), Drop: ids(3)}},
		{ids(1, 3, 4, 5, 6, 2), math.MinInt, prune.Plan{Repack: ids(5, 7, 9), Drop: ids(3)}},
		// 30 of a hundred are wasted, or 70.
		{ids(1), 30, prune.Plan{Keep: ids(9), Drop: ids(3, 5, 7)}},
		{ids(1), 29, prune.Plan{Repack: ids(9), Drop: ids(3, 5, 7)}},
		{ids(2), 70, prune.Plan{Keep: ids(9), Drop: ids(3, 5, 7)}},
		{ids(2), 69, prune.Plan{Repack: ids(9), Drop: ids(3, 5, 7)}},
		// A third, or two of it.
		{ids(3, 5), 34, prune.Plan{Keep: ids(5), Drop: ids(3, 7, 9)}},
		{ids(3, 5), 33, prune.Plan{Repack: ids(5), Drop: ids(3, 7, 9)}},
		{ids(4), 67, prune.Plan{Keep: ids(5), Drop: ids(3, 7, 9)}},
		{ids(4), 66, prune.Plan{Repack: ids(5), Drop: ids(3, 7, 9)}},
		{ids(2, 4, 6), 100, prune.Plan{Keep: ids(5, 7, 9), Drop: ids(3)}},
		{ids(2, 4, 6), 101, prune.Plan{Keep: ids(5, 7, 9), Drop: ids(3)}},
		{ids(2, 4, 6), math.MaxInt, prune.Plan{Keep: ids(5, 7, 9), Drop: ids(3)}},
		// However often, and in which order they are told.
		{ids(6, 1, 99, 6, 1, 6), 29, prune.Plan{Keep: ids(7), Repack: ids(9), Drop: ids(3, 5)}},
	} {
		// Whether a hot one is young makes no difference.
		planned(t, &x.Index, c.live, c.waste, none, c.want)
		planned(t, &x.Index, c.live, c.waste, all, c.want)
		planned(t, &x.Index, c.live, c.waste, nil, c.want)
	}
}

func TestMakeOfColdPacks(t *testing.T) {
	var x packs
	x.put(t, 1, true, blob(1, 1), blob(2, 99))
	x.put(t, 2, true, blob(3, 5))
	x.put(t, 3, false, blob(4, 5))
	x.put(t, 4, true)
	x.put(t, 5, true, blob(5, 0))
	third := func(id api.ID) bool { return id == api.ID{2} }
	for _, waste := range []int{math.MinInt, -1, 0, 100} {
		planned(t, &x.Index, nil, waste, none, prune.Plan{Drop: ids(1, 2, 3, 4, 5)})
		planned(t, &x.Index, nil, waste, nil, prune.Plan{Drop: ids(1, 2, 3, 4, 5)})
		planned(t, &x.Index, nil, waste, all, prune.Plan{Keep: ids(1, 2, 4, 5), Drop: ids(3)})
		planned(t, &x.Index, nil, waste, third, prune.Plan{Keep: ids(2), Drop: ids(1, 3, 4, 5)})
		planned(t, &x.Index, ids(1), waste, none, prune.Plan{Keep: ids(1), Drop: ids(2, 3, 4, 5)})
		planned(t, &x.Index, ids(5, 1), waste, third, prune.Plan{Keep: ids(1, 2, 5), Drop: ids(3, 4)})
	}
}

func TestMakeOfEmptyBlobs(t *testing.T) {
	var x packs
	x.put(t, 1, false, blob(1, 0))
	x.put(t, 2, false, blob(2, 0), blob(3, 0))
	x.put(t, 3, false, blob(4, 0), blob(5, 1))
	planned(t, &x.Index, ids(1, 2), 0, none, prune.Plan{Keep: ids(1, 2), Drop: ids(3)})
	planned(t, &x.Index, ids(1, 2), -1, none, prune.Plan{Repack: ids(1, 2), Drop: ids(3)})
	planned(t, &x.Index, ids(4), 99, none, prune.Plan{Repack: ids(3), Drop: ids(1, 2)})
	planned(t, &x.Index, ids(4), 100, none, prune.Plan{Keep: ids(3), Drop: ids(1, 2)})
}

func TestABlobIsLiveAtItsPlaceAlone(t *testing.T) {
	var x packs
	x.put(t, 1, true, blob(1, 5))
	x.put(t, 2, true, blob(1, 5), blob(2, 5))
	x.put(t, 3, false, blob(2, 5), blob(3, 5))
	x.put(t, 4, false, blob(3, 5), blob(4, 5))
	planned(t, &x.Index, ids(1), 0, none, prune.Plan{Keep: ids(1), Drop: ids(2, 3, 4)})
	planned(t, &x.Index, ids(2), 50, none, prune.Plan{Keep: ids(3), Drop: ids(1, 2, 4)})
	planned(t, &x.Index, ids(2), 49, none, prune.Plan{Repack: ids(3), Drop: ids(1, 2, 4)})
	planned(t, &x.Index, ids(3), 50, none, prune.Plan{Keep: ids(3), Drop: ids(1, 2, 4)})
	// What is another pack's is wasted.
	planned(t, &x.Index, ids(4, 3), 49, none, prune.Plan{Repack: ids(3, 4), Drop: ids(1, 2)})
	planned(t, &x.Index, ids(4, 3, 2), 49, none, prune.Plan{Keep: ids(3), Repack: ids(4), Drop: ids(1, 2)})
	planned(t, &x.Index, ids(1, 2, 3, 4), 50, all, prune.Plan{Keep: ids(1, 2, 3, 4)})
}

func TestABlobThatAPackHasTwiceIsLiveOnce(t *testing.T) {
	var x packs
	x.put(t, 1, false, blob(1, 10), blob(1, 90))
	x.put(t, 2, false, blob(2, 90), blob(2, 10), blob(2, 0))
	planned(t, &x.Index, ids(1, 2), 9, none, prune.Plan{Repack: ids(1, 2)})
	planned(t, &x.Index, ids(1, 2), 10, none, prune.Plan{Keep: ids(2), Repack: ids(1)})
	planned(t, &x.Index, ids(1, 2, 1), 89, none, prune.Plan{Keep: ids(2), Repack: ids(1)})
	planned(t, &x.Index, ids(1, 2), 90, none, prune.Plan{Keep: ids(1, 2)})
}

func TestMakeOfTheGreatestPacks(t *testing.T) {
	var x packs
	var list []pack.Entry
	for i := range 4096 {
		list = append(list, pack.Entry{ID: api.ID{byte(i), byte(i >> 8)}, Off: 1 << 20, Len: 1 << 20})
	}
	x.put(t, 1, false, list...)
	var live []api.ID
	for _, e := range list[:2048] {
		live = append(live, e.ID)
	}
	planned(t, &x.Index, live, 49, none, prune.Plan{Repack: ids(1)})
	planned(t, &x.Index, live, 50, none, prune.Plan{Keep: ids(1)})
}

// random is an index of few blobs, and some of them.
func random(r *rand.Rand) (*index.Index, []api.ID) {
	var x index.Index
	for range r.Intn(8) {
		var list []pack.Entry
		for range r.Intn(6) {
			list = append(list, blob(byte(r.Intn(20)), r.Intn(8)*r.Intn(2)))
		}
		// One that is there already stays as it is.
		x.Put(api.ID{byte(r.Intn(256))}, r.Intn(2) == 0, list)
	}
	var live []api.ID
	for range r.Intn(20) {
		live = append(live, api.ID{byte(r.Intn(20))})
	}
	return &x, live
}

// byHand is a plan, as the chapter says it, pack by pack.
func byHand(x *index.Index, live []api.ID, waste int, young func(api.ID) bool) prune.Plan {
	var p prune.Plan
	for id, cold := range x.Packs() {
		list, _, _ := x.Pack(id)
		all, own, n := 0, 0, 0
		for i, e := range list {
			all += e.Len
			first := slices.IndexFunc(list, func(o pack.Entry) bool { return o.ID == e.ID }) == i
			place, _ := x.Find(e.ID)
			if first && place.Pack == id && slices.Contains(live, e.ID) {
				own += e.Len
				n++
			}
		}
		keeps, drops := n > 0 && waste >= 0 && 100*(all-own) <= min(waste, 100)*all, n == 0
		if cold {
			keeps, drops = n > 0 || young(id), n == 0 && !young(id)
		}
		switch {
		case keeps:
			p.Keep = append(p.Keep, id)
		case drops:
			p.Drop = append(p.Drop, id)
		default:
			p.Repack = append(p.Repack, id)
		}
	}
	return p
}

func TestMakeOfManyIndexes(t *testing.T) {
	r := rand.New(rand.NewSource(1))
	counts := [3]int{}
	for range 5000 {
		x, live := random(r)
		waste := r.Intn(130) - 10
		young := func(id api.ID) bool { return id[0]%3 == 0 }
		want := byHand(x, live, waste, young)
		counts[0] += len(want.Keep)
		counts[1] += len(want.Repack)
		counts[2] += len(want.Drop)
		given, bytesOf := slices.Clone(live), x.Encode()
		planned(t, x, live, waste, young, want)
		if !slices.Equal(live, given) || !bytes.Equal(x.Encode(), bytesOf) {
			t.Fatal("what was handed in was turned")
		}
		if t.Failed() {
			t.FailNow()
		}
	}
	if slices.Min(counts[:]) < 1000 {
		t.Errorf("%v", counts)
	}
}

func TestAPlanIsNewMemory(t *testing.T) {
	var x packs
	for i := range 12 {
		x.put(t, byte(i), false, blob(byte(i), 5), blob(byte(i+100), 5))
	}
	live := ids(1, 2, 3, 4, 101, 102)
	got := prune.Make(&x.Index, live, 0, none)
	want := prune.Plan{Keep: ids(1, 2), Repack: ids(3, 4), Drop: ids(0, 5, 6, 7, 8, 9, 10, 11)}
	for _, list := range [][]api.ID{got.Keep[:cap(got.Keep)], got.Drop[:cap(got.Drop)]} {
		clear(list)
	}
	if !slices.Equal(got.Repack, want.Repack) || !slices.Equal(live, ids(1, 2, 3, 4, 101, 102)) {
		t.Error("lists share memory")
	}
	planned(t, &x.Index, live, 0, none, want)
}
