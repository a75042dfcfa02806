package plan_test

import (
	"math"
	"math/rand"
	"slices"
	"testing"

	"coldstore/api"
	"coldstore/index"
	"coldstore/pack"
	"coldstore/plan"
	"coldstore/sha"
)

// ids is sums of which nothing but the first byte is told.
func ids(list ...byte) []api.ID {
	var all []api.ID
	for _, b := range list {
		all = append(all, api.ID{b})
	}
	return all
}

// sized is an item, of whose sum nothing but the first byte is told.
func sized(id byte, size int) plan.Item {
	return plan.Item{ID: api.ID{id}, Size: size}
}

// put lets an index have a pack of blobs of these lengths, whose sums are the pack's own first byte, and 0, 1, 2 and so on.
func put(t *testing.T, x *index.Index, id byte, cold bool, lengths ...int) {
	t.Helper()
	var list []pack.Entry
	for i, n := range lengths {
		list = append(list, pack.Entry{ID: api.ID{id, byte(i)}, Off: n % 7, Len: n})
	}
	if e := x.Put(api.ID{id}, cold, list); e != api.OK {
		t.Fatal(e)
	}
}

// of tells which items blobs need, and that the index and the list of blobs stay as they are.
func of(t *testing.T, x *index.Index, blobs []api.ID, want ...plan.Item) {
	t.Helper()
	before := x.Encode()
	kept := append(slices.Clone(blobs), api.ID{99})
	list := slices.Clone(kept)
	if got := plan.Of(x, list[:len(blobs)]); !slices.Equal(got, want) {
		t.Errorf("of %d blobs %v, not %v", len(blobs), got, want)
	}
	if !slices.Equal(list, kept) || !slices.Equal(before, x.Encode()) {
		t.Error("what was handed in is turned")
	}
}

func TestOf(t *testing.T) {
	var x index.Index
	of(t, &x, nil)
	of(t, &x, ids(1, 2))
	put(t, &x, 9, true, 5)
	put(t, &x, 4, true, 0)
	put(t, &x, 6, true, 3, 1<<20, 7)
	put(t, &x, 5, false, 8)
	put(t, &x, 1, true)
	nine, four, six := sized(9, 13+36+5), sized(4, 13+36), sized(6, 13+3*36+3+1<<20+7)
	of(t, &x, nil)
	of(t, &x, []api.ID{})
	of(t, &x, ids(9), nine)
	of(t, &x, ids(4), four)
	// All of a pack's blobs count, whichever of them are needed.
	for i := range byte(3) {
		of(t, &x, []api.ID{{6, i}}, six)
	}
	// Packs rise, each once, whatever the order of blobs is, and however great the packs are.
	of(t, &x, []api.ID{{9}, {6, 2}, {4}, {6, 1}, {9}}, four, six, nine)
	of(t, &x, []api.ID{{6}, {4}, {4}, {6, 2}, {9}}, four, six, nine)
	// Those of hot packs, and those that the index hasn't, need none.
	of(t, &x, ids(5, 1, 77))
	of(t, &x, ids(5, 77, 4), four)
}

func TestOfGoesByPlaces(t *testing.T) {
	var x index.Index
	blob := pack.Entry{ID: api.ID{7}, Len: 10}
	for id, list := range map[byte][]pack.Entry{3: {blob}, 6: {blob, {ID: api.ID{8}, Len: 1}}} {
		if e := x.Put(api.ID{id}, true, list); e != api.OK {
			t.Fatal(e)
		}
	}
	three, six := sized(3, 13+36+10), sized(6, 13+2*36+11)
	of(t, &x, ids(7), three)
	of(t, &x, ids(8, 7), three, six)
	put(t, &x, 7, false, 10)
	of(t, &x, ids(7))
	x.Move(api.ID{6}, false)
	x.Drop(api.ID{7})
	of(t, &x, ids(7, 8))
	x.Move(api.ID{6}, true)
	x.Drop(api.ID{3})
	of(t, &x, ids(7), six)
}

func TestABlobThatIsListedTwiceCountsTwice(t *testing.T) {
	var x index.Index
	list := []pack.Entry{{ID: api.ID{7}, Len: 10}, {ID: api.ID{7}, Off: 1, Len: 20}}
	if e := x.Put(api.ID{3}, true, list); e != api.OK {
		t.Fatal(e)
	}
	of(t, &x, ids(7, 7), sized(3, 13+2*36+30))
}

func TestThePackWithTheMostBytes(t *testing.T) {
	var x index.Index
	list := make([]pack.Entry, api.MaxBlobs)
	for i := range list {
		list[i] = pack.Entry{ID: api.ID{1, byte(i), byte(i >> 8)}, Len: api.MaxObject}
	}
	if e := x.Put(api.ID{3}, true, list); e != api.OK {
		t.Fatal(e)
	}
	of(t, &x, ids(1), sized(3, 13+api.MaxBlobs*(36+api.MaxObject)))
}

// TestSizesArePacksBytes holds sizes against those of packs of layer 12.
func TestSizesArePacksBytes(t *testing.T) {
	r := rand.New(rand.NewSource(1))
	var x index.Index
	var want []plan.Item
	var blobs []api.ID
	for range 40 {
		var b pack.Builder
		var list []pack.Entry
		for range 1 + r.Intn(9) {
			blob := make([]byte, r.Intn(300))
			r.Read(blob)
			if entry, e := b.Add(blob); e == api.OK {
				list = append(list, entry)
			}
		}
		id := sha.Of(b.Done())
		if e := x.Put(id, true, list); e != api.OK {
			t.Fatal(e)
		}
		// What is found elsewhere needs that pack.
		if at, _ := x.Find(list[0].ID); at.Pack == id {
			blobs = append(blobs, list[0].ID)
			want = append(want, plan.Item{ID: id, Size: len(b.Done())})
		}
	}
	slices.SortFunc(want, func(a, b plan.Item) int { return slices.Compare(a.ID[:], b.ID[:]) })
	of(t, &x, blobs, want...)
}

func TestOfIsNewMemory(t *testing.T) {
	var x index.Index
	put(t, &x, 3, true, 1)
	put(t, &x, 4, true, 2)
	got := plan.Of(&x, ids(3, 4))
	clear(got[:cap(got)])
	of(t, &x, ids(3, 4), sized(3, 13+36+1), sized(4, 13+36+2))
}

// sorts tells how items must be sorted, and that they stay as they are where they were handed in.
func sorts(t *testing.T, items []plan.Item, want ...plan.Item) {
	t.Helper()
	kept := append(slices.Clone(items), sized(99, math.MaxInt))
	list := slices.Clone(kept)
	got := plan.Sort(list[:len(items)])
	if !slices.Equal(got, want) {
		t.Errorf("%v, not %v", got, want)
	}
	if !slices.Equal(list, kept) {
		t.Error("what was handed in is turned")
	}
	clear(got[:cap(got)])
	if !slices.Equal(list, kept) {
		t.Error("what is answered shares memory with what was handed in")
	}
}

func TestSort(t *testing.T) {
	sorts(t, nil)
	sorts(t, []plan.Item{})
	sorts(t, []plan.Item{sized(1, 5)}, sized(1, 5))
	sorts(t, []plan.Item{sized(1, 5), sized(2, 7), sized(3, 6)}, sized(2, 7), sized(3, 6), sized(1, 5))
	// Of one size they rise.
	sorts(t, []plan.Item{sized(9, 5), sized(1, 5), sized(4, 8), sized(200, 5), sized(3, 8)},
		sized(3, 8), sized(4, 8), sized(1, 5), sized(9, 5), sized(200, 5))
	// The same ones stay, however many there are.
	sorts(t, []plan.Item{sized(1, 0), sized(2, 0), sized(1, 0), sized(2, 0)}, sized(1, 0), sized(1, 0), sized(2, 0), sized(2, 0))
	// All sizes may be handed in, though their difference be beyond all numbers.
	sorts(t, []plan.Item{sized(1, -1), sized(2, math.MinInt), sized(3, math.MaxInt), sized(4, 0), sized(5, math.MinInt), sized(6, 1)},
		sized(3, math.MaxInt), sized(6, 1), sized(4, 0), sized(1, -1), sized(2, math.MinInt), sized(5, math.MinInt))
}

func TestSumsAreHeldAgainstEachOtherByteByByte(t *testing.T) {
	one, two := api.ID{1, 0, 255}, api.ID{1, 1}
	last := api.ID{1, 1}
	last[31] = 1
	item := func(id api.ID) plan.Item { return plan.Item{ID: id, Size: 3} }
	sorts(t, []plan.Item{item(last), item(one), item(two)}, item(one), item(two), item(last))
}

func TestManySorts(t *testing.T) {
	for seed := range int64(300) {
		r := rand.New(rand.NewSource(seed))
		items := make([]plan.Item, r.Intn(60))
		for i := range items {
			items[i] = sized(byte(r.Intn(5)), r.Intn(9)-2)
			items[i].ID[31] = byte(r.Intn(3))
		}
		want := slices.Clone(items)
		slices.SortFunc(want, func(a, b plan.Item) int {
			if a.Size != b.Size {
				return b.Size - a.Size
			}
			return slices.Compare(a.ID[:], b.ID[:])
		})
		sorts(t, items, want...)
	}
}

// pair is how many items a batch has, and how many bytes.
type pair struct{ items, bytes int }

// pairs is what Loads goes through, until there are so many (below 0: all).
func pairs(batches [][]plan.Item, most int) []pair {
	var list []pair
	for n, bytes := range plan.Loads(batches) {
		if len(list) == most {
			break
		}
		list = append(list, pair{n, bytes})
	}
	return list
}

func TestLoads(t *testing.T) {
	for _, c := range []struct {
		batches [][]plan.Item
		want    []pair
	}{
		{nil, nil},
		{[][]plan.Item{}, nil},
		{[][]plan.Item{nil}, []pair{{0, 0}}},
		{[][]plan.Item{{sized(1, 0)}}, []pair{{1, 0}}},
		{[][]plan.Item{{sized(1, 3), sized(2, 2)}, {sized(3, 4)}}, []pair{{2, 5}, {1, 4}}},
		{[][]plan.Item{{sized(3, 4)}, {}, {sized(1, 3), sized(1, 3), sized(1, 3)}, nil}, []pair{{1, 4}, {0, 0}, {3, 9}, {0, 0}}},
		// Batches of any items may be handed in.
		{[][]plan.Item{{sized(1, -3), sized(2, 2)}, {sized(1, math.MinInt)}, {sized(1, math.MaxInt)}}, []pair{{2, -1}, {1, math.MinInt}, {1, math.MaxInt}}},
	} {
		for n := range len(c.want) + 1 {
			if got := pairs(c.batches, n); !slices.Equal(got, c.want[:n]) {
				t.Errorf("%v, stopped behind %d: %v", c.batches, n, got)
			}
		}
		if got := pairs(c.batches, -1); !slices.Equal(got, c.want) {
			t.Errorf("%v: %v, not %v", c.batches, got, c.want)
		}
	}
}

func TestLoadsMayBeGoneThroughAgain(t *testing.T) {
	batches := [][]plan.Item{{sized(1, 3), sized(2, 2)}, {sized(3, 4)}, {sized(4, 6)}}
	want := []pair{{2, 5}, {1, 4}, {1, 6}}
	all := plan.Loads(batches)
	// What was handed in may be written over behind the call.
	clear(batches[0])
	clear(batches)
	for range 3 {
		var got []pair
		for n, bytes := range all {
			got = append(got, pair{n, bytes})
			for range all {
				break
			}
		}
		if !slices.Equal(got, want) {
			t.Errorf("%v, not %v", got, want)
		}
	}
}

func TestLoadsTurnsNothing(t *testing.T) {
	list := []plan.Item{sized(1, 3), sized(2, 2), sized(3, 4)}
	batches := [][]plan.Item{list[:2], list[2:], nil}
	pairs(batches[:2], -1)
	if !slices.Equal(list, []plan.Item{sized(1, 3), sized(2, 2), sized(3, 4)}) || len(batches[0]) != 2 || len(batches[1]) != 1 || batches[2] != nil {
		t.Error("what was handed in is turned")
	}
}
