package plan_test

import (
	"math"
	"math/rand"
	"slices"
	"testing"

	"coldstore/api"
	"coldstore/plan"
)

// way is a way of making batches.
type way func(items []plan.Item, jobs, room int) ([][]plan.Item, api.Errno)

// ofSizes is items of these sizes, each of a sum of its own.
func ofSizes(sizes ...int) []plan.Item {
	var items []plan.Item
	for i, n := range sizes {
		items = append(items, plan.Item{ID: api.ID{byte(i), byte(i >> 8)}, Size: n})
	}
	return items
}

// same tells whether batches are the same.
func same(a, b [][]plan.Item) bool {
	return slices.EqualFunc(a, b, slices.Equal)
}

// sizesOf is the sizes of batches' items.
func sizesOf(batches [][]plan.Item) [][]int {
	var all [][]int
	for _, items := range batches {
		var sizes []int
		for _, i := range items {
			sizes = append(sizes, i.Size)
		}
		all = append(all, sizes)
	}
	return all
}

// makes tells of which sizes the batches must be that a way makes.
func makes(t *testing.T, by way, items []plan.Item, jobs, room int, want ...[]int) {
	t.Helper()
	got, e := by(items, jobs, room)
	if e != api.OK || !slices.EqualFunc(sizesOf(got), want, slices.Equal) {
		t.Errorf("%v, by %d and %d: %v %d, not %v", items, jobs, room, sizesOf(got), e, want)
	}
}

func TestCut(t *testing.T) {
	items := ofSizes(3, 4, 2)
	makes(t, plan.Cut, items, 9, 6, []int{3}, []int{4, 2})
	makes(t, plan.Cut, items, 9, 7, []int{3, 4}, []int{2})
	makes(t, plan.Cut, items, 9, 8, []int{3, 4}, []int{2})
	makes(t, plan.Cut, items, 9, 9, []int{3, 4, 2})
	makes(t, plan.Cut, items, 2, 9, []int{3, 4}, []int{2})
	makes(t, plan.Cut, items, 1, 9, []int{3}, []int{4}, []int{2})
	makes(t, plan.Cut, items, 9, 4, []int{3}, []int{4}, []int{2})
	// What is ahead of the last batch isn't asked, though it had room.
	makes(t, plan.Cut, ofSizes(3, 5, 1, 3, 1), 9, 6, []int{3}, []int{5, 1}, []int{3, 1})
	// What has no bytes goes where there may be one more.
	makes(t, plan.Cut, ofSizes(1, 6, 0, 0, 0, 1), 3, 6, []int{1}, []int{6, 0, 0}, []int{0, 1})
}

func TestFill(t *testing.T) {
	items := ofSizes(3, 4, 2)
	makes(t, plan.Fill, items, 9, 6, []int{3, 2}, []int{4})
	makes(t, plan.Fill, items, 9, 7, []int{3, 4}, []int{2})
	makes(t, plan.Fill, items, 9, 9, []int{3, 4, 2})
	makes(t, plan.Fill, items, 2, 9, []int{3, 4}, []int{2})
	makes(t, plan.Fill, items, 1, 9, []int{3}, []int{4}, []int{2})
	makes(t, plan.Fill, items, 9, 4, []int{3}, []int{4}, []int{2})
	// Of those that have room it is the one that was begun first, not the fullest, nor the emptiest one.
	makes(t, plan.Fill, ofSizes(4, 5, 3, 1, 1, 1, 1), 9, 6, []int{4, 1, 1}, []int{5, 1}, []int{3, 1})
	makes(t, plan.Fill, ofSizes(3, 5, 4, 1, 2, 2), 9, 6, []int{3, 1, 2}, []int{5}, []int{4, 2})
	// A batch that has as many as may be has no room, though it had for bytes.
	makes(t, plan.Fill, ofSizes(1, 1, 6, 1, 0, 0), 2, 6, []int{1, 1}, []int{6, 0}, []int{1, 0})
}

func TestNoItems(t *testing.T) {
	for _, by := range []way{plan.Cut, plan.Fill} {
		makes(t, by, nil, 1, 0)
		makes(t, by, []plan.Item{}, math.MaxInt, math.MaxInt)
	}
}

func TestBounds(t *testing.T) {
	for _, by := range []way{plan.Cut, plan.Fill} {
		// There may be room for no byte at all.
		makes(t, by, ofSizes(0, 0, 0), 2, 0, []int{0, 0}, []int{0})
		makes(t, by, ofSizes(0, 0, 0), math.MaxInt, 0, []int{0, 0, 0})
		makes(t, by, ofSizes(5), 1, 5, []int{5})
		// Sums of two sizes may be beyond all numbers.
		makes(t, by, ofSizes(math.MaxInt, math.MaxInt), 9, math.MaxInt, []int{math.MaxInt}, []int{math.MaxInt})
		makes(t, by, ofSizes(math.MaxInt-1, 1), 9, math.MaxInt, []int{math.MaxInt - 1, 1})
		makes(t, by, ofSizes(math.MaxInt-1, 2), 9, math.MaxInt, []int{math.MaxInt - 1}, []int{2})
		makes(t, by, ofSizes(2, math.MaxInt), 9, math.MaxInt, []int{2}, []int{math.MaxInt})
	}
	makes(t, plan.Cut, ofSizes(math.MaxInt, math.MaxInt, 0), 9, math.MaxInt, []int{math.MaxInt}, []int{math.MaxInt, 0})
	makes(t, plan.Fill, ofSizes(math.MaxInt, math.MaxInt, 0), 9, math.MaxInt, []int{math.MaxInt, 0}, []int{math.MaxInt})
}

func TestAsManyItemsAsMayBe(t *testing.T) {
	most := ofSizes(make([]int, api.MaxObjects)...)
	for _, by := range []way{plan.Cut, plan.Fill} {
		for jobs, want := range map[int]int{1: 4096, 2: 2048, 4095: 2, 4096: 1, math.MaxInt: 1} {
			got, e := by(most, jobs, 0)
			if e != api.OK || len(got) != want || !slices.Equal(slices.Concat(got...), most) {
				t.Errorf("by %d: %d batches, %d", jobs, len(got), e)
			}
		}
		fails(t, by, append(most, most[0]), math.MaxInt, math.MaxInt, api.ErrMany)
		fails(t, by, slices.Concat(most, most), 1, 0, api.ErrMany)
	}
}

// fails tells with which error a way ends.
func fails(t *testing.T, by way, items []plan.Item, jobs, room int, want api.Errno) {
	t.Helper()
	if got, e := by(items, jobs, room); got != nil || e != want {
		t.Errorf("%d items, by %d and %d: %d batches, %d, not %d", len(items), jobs, room, len(got), e, want)
	}
}

func TestErrors(t *testing.T) {
	many := ofSizes(append(make([]int, api.MaxObjects), -1)...)
	for _, by := range []way{plan.Cut, plan.Fill} {
		for _, bad := range [][2]int{{0, 5}, {-1, 5}, {math.MinInt, 5}, {1, -1}, {1, math.MinInt}, {0, -1}} {
			for _, items := range [][]plan.Item{nil, ofSizes(3), ofSizes(-1), ofSizes(9), many} {
				fails(t, by, items, bad[0], bad[1], api.ErrArg)
			}
		}
		// That there are too many is told ahead of what is wrong with each.
		fails(t, by, many, 1, 5, api.ErrMany)
		fails(t, by, ofSizes(-1), 1, 5, api.ErrRange)
		fails(t, by, ofSizes(math.MinInt), 1, math.MaxInt, api.ErrRange)
		fails(t, by, ofSizes(6), 1, 5, api.ErrLong)
		fails(t, by, ofSizes(1), 1, 0, api.ErrLong)
		fails(t, by, ofSizes(math.MaxInt), 9, math.MaxInt-1, api.ErrLong)
		// The first item of which something is wrong tells it.
		fails(t, by, ofSizes(3, -1, 6), 1, 5, api.ErrRange)
		fails(t, by, ofSizes(3, 6, -1), 1, 5, api.ErrLong)
		fails(t, by, ofSizes(3, 5, 0, 3, 5, -1), 1, 5, api.ErrRange)
		fails(t, by, ofSizes(3, 5, 0, 3, 5, 6), 1, 5, api.ErrLong)
	}
}

func TestTheSameItemTwice(t *testing.T) {
	one, two := sized(7, 3), sized(1, 2)
	for by, want := range map[int][][]plan.Item{0: {{one}, {one, two}, {two}}, 1: {{one, two}, {one, two}}} {
		got, e := []way{plan.Cut, plan.Fill}[by]([]plan.Item{one, one, two, two}, 9, 5)
		if e != api.OK || !same(got, want) {
			t.Errorf("%v %d, not %v", got, e, want)
		}
	}
}

// held is how many bytes items have together; sizes are such that no sum wraps round.
func held(items []plan.Item) uint64 {
	var n uint64
	for _, i := range items {
		n += uint64(i.Size)
	}
	return n
}

// modelled is the batches that the chapter tells, asked of all batches, or of the last one alone.
func modelled(items []plan.Item, jobs, room int, all bool) [][]plan.Item {
	var batches [][]plan.Item
next:
	for _, item := range items {
		for b := range batches {
			if !all && b < len(batches)-1 {
				continue
			}
			if len(batches[b])+1 <= jobs && held(batches[b])+uint64(item.Size) <= uint64(room) {
				batches[b] = append(batches[b], item)
				continue next
			}
		}
		batches = append(batches, []plan.Item{item})
	}
	return batches
}

// fewest is with how few batches items may be cut in order, whichever way.
func fewest(items []plan.Item, jobs, room int) int {
	best := []int{0}
	for n := 1; n <= len(items); n++ {
		least := math.MaxInt
		// Going back, no further than there is room, so that no sum wraps round.
		for from := n - 1; from >= 0 && n-from <= jobs && held(items[from:n]) <= uint64(room); from-- {
			least = min(least, best[from]+1)
		}
		best = append(best, least)
	}
	return best[len(items)]
}

// holds tells that both ways make the batches that the chapter tells, and what P28.2 and P28.3 promise of them.
func holds(t *testing.T, items []plan.Item, jobs, room int) {
	t.Helper()
	cut, e := plan.Cut(items, jobs, room)
	full, f := plan.Fill(items, jobs, room)
	if e != api.OK || f != api.OK || !same(cut, modelled(items, jobs, room, false)) || !same(full, modelled(items, jobs, room, true)) {
		t.Fatalf("%v, by %d and %d: %v %d, and %v %d", items, jobs, room, cut, e, full, f)
	}
	if n := fewest(items, jobs, room); len(cut) != n || !slices.Equal(slices.Concat(cut...), items) {
		t.Fatalf("%v, by %d and %d: %v; %d are enough", items, jobs, room, cut, n)
	}
	if len(full) > len(cut) {
		t.Fatalf("%v, by %d and %d: more of %v than of %v", items, jobs, room, full, cut)
	}
	for b, later := range full {
		for _, first := range full[:b] {
			if len(first) < jobs && held(first)+held(later) <= uint64(room) {
				t.Fatalf("%v, by %d and %d: %v and %v are one", items, jobs, room, first, later)
			}
		}
	}
	for _, items := range slices.Concat(cut, full) {
		if len(items) == 0 || len(items) > jobs || held(items) > uint64(room) {
			t.Fatalf("by %d and %d: %v", jobs, room, items)
		}
	}
}

func TestAllShortLists(t *testing.T) {
	lists := [][]int{nil}
	for at := 0; at < len(lists); at++ {
		for jobs := 1; jobs <= 4; jobs++ {
			for room := 4; room <= 7; room++ {
				holds(t, ofSizes(lists[at]...), jobs, room)
			}
		}
		for size := range 5 {
			if len(lists[at]) < 5 {
				lists = append(lists, append(slices.Clone(lists[at]), size))
			}
		}
	}
}

func TestManyLists(t *testing.T) {
	for seed := range int64(3000) {
		r := rand.New(rand.NewSource(seed))
		jobs, room := 1+r.Intn(9), r.Intn(40)
		if seed%5 == 0 {
			jobs = math.MaxInt
		}
		most := 1 + r.Intn(room+1)
		items := make([]plan.Item, r.Intn(40))
		for i := range items {
			items[i] = sized(byte(r.Intn(9)), r.Intn(most))
		}
		holds(t, items, jobs, room)
		// As great as sizes may be, they go together as the small ones do.
		by := math.MaxInt / (room + 1)
		for i := range items {
			items[i].Size *= by
		}
		holds(t, items, jobs, room*by)
	}
}

func TestWhatIsHandedInStays(t *testing.T) {
	for _, by := range []way{plan.Cut, plan.Fill} {
		list := ofSizes(3, 4, 2, 1, 5, 9)
		kept := slices.Clone(list)
		got, e := by(list[:5], 2, 6)
		if e != api.OK || !slices.Equal(list, kept) {
			t.Fatalf("%v %d", list, e)
		}
		by(list[:5], 2, 4)
		if !slices.Equal(list, kept) {
			t.Error("what was handed in is turned, with an error")
		}
		// It may be written over behind the call.
		clear(list)
		again, _ := by(kept[:5], 2, 6)
		if !same(got, again) {
			t.Errorf("%v, not %v", got, again)
		}
	}
}

func TestBatchesAreNewMemory(t *testing.T) {
	for _, by := range []way{plan.Cut, plan.Fill} {
		items := ofSizes(1, 4, 2, 1, 5, 1, 3, 3, 2, 1, 1)
		kept := slices.Clone(items)
		want, _ := by(items, 3, 6)
		for b := range want {
			got, _ := by(items, 3, 6)
			clear(got[b][:cap(got[b])])
			for other := range got {
				if other != b && !slices.Equal(got[other], want[other]) {
					t.Errorf("the batches %d and %d share memory", b, other)
				}
			}
		}
		if !slices.Equal(items, kept) {
			t.Error("batches share memory with what was handed in")
		}
	}
}

func TestSortedItemsByBatches(t *testing.T) {
	items := ofSizes(2, 5, 1, 4, 3, 3)
	makes(t, plan.Fill, plan.Sort(items), 9, 6, []int{5, 1}, []int{4, 2}, []int{3, 3})
	makes(t, plan.Cut, plan.Sort(items), 9, 6, []int{5}, []int{4}, []int{3, 3}, []int{2, 1})
	batches, _ := plan.Fill(plan.Sort(items), 9, 6)
	if got := pairs(batches, -1); !slices.Equal(got, []pair{{2, 6}, {2, 6}, {2, 6}}) {
		t.Errorf("%v", got)
	}
}
