package retain_test

import (
	"math"
	"slices"
	"testing"

	"coldstore/api"
	"coldstore/retain"
	"coldstore/snap"
)

// at is snapshots at these times, unlike in nothing else.
func at(times ...int64) []snap.Snap {
	var list []snap.Snap
	for _, time := range times {
		list = append(list, snap.Snap{Time: time, Host: "a"})
	}
	return list
}

// gone is the places that Gone tells.
func gone(list []snap.Snap, p retain.Policy) []int {
	return slices.Collect(retain.Gone(list, p))
}

// keeps tells that of a list just the ones at these places are kept.
func keeps(t *testing.T, list []snap.Snap, p retain.Policy, places ...int) {
	t.Helper()
	want := make([]bool, len(list))
	for _, i := range places {
		want[i] = true
	}
	if got := retain.Keep(list, p); !slices.Equal(got, want) {
		t.Errorf("%v: Keep is %v, not %v", p, got, want)
	}
	var others []int
	for i, kept := range want {
		if !kept {
			others = append(others, i)
		}
	}
	if got := gone(list, p); !slices.Equal(got, others) {
		t.Errorf("%v: Gone is %v, not %v", p, got, others)
	}
}

// daysAre tells which days a list has.
func daysAre(t *testing.T, list []snap.Snap, day int64, want ...int64) {
	t.Helper()
	if got := retain.Days(list, day); !slices.Equal(got, want) {
		t.Errorf("days of %d: %v, not %v", day, got, want)
	}
}

func TestTheLastOnesAreKept(t *testing.T) {
	list := at(30, 10, 50, 20, 40)
	for _, n := range []int{0, -1, -5, math.MinInt} {
		keeps(t, list, retain.Policy{Last: n})
	}
	keeps(t, list, retain.Policy{Last: 1}, 2)
	keeps(t, list, retain.Policy{Last: 2}, 2, 4)
	keeps(t, list, retain.Policy{Last: 4}, 0, 2, 3, 4)
	for _, n := range []int{5, 6, math.MaxInt} {
		keeps(t, list, retain.Policy{Last: n}, 0, 1, 2, 3, 4)
	}
}

func TestLastIsByAllThatSnapshotsAreSortedBy(t *testing.T) {
	list := []snap.Snap{
		{Time: 1, Host: "b"},
		{Time: 1, Host: "a", Tag: "z"},
		{Time: 1, Host: "b", Tag: "a", Root: api.ID{31: 9}, Files: 9, Bytes: 9},
		{Time: 1, Host: "b", Tag: "a", Root: api.ID{1}, Files: 2, Bytes: 1},
		{Time: 1, Host: "b", Tag: "a", Root: api.ID{1}, Files: 1, Bytes: 8},
		{Time: 1, Host: "b", Tag: "a", Root: api.ID{1}, Files: 2},
		{Time: 0, Host: "z", Tag: "z"},
	}
	order := []int{3, 5, 4, 2, 0, 1, 6}
	for n := range order {
		keeps(t, list, retain.Policy{Last: n + 1}, order[:n+1]...)
	}
	// All but the last one are of one day, of which the first in that order is kept.
	keeps(t, list, retain.Policy{Days: 9, Day: 1}, 3, 6)
}

func TestOfTheSameOnesThatWhichStandsLastIsTheLast(t *testing.T) {
	list := at(7, 5, 7, 5, 7)
	keeps(t, list, retain.Policy{Last: 1}, 4)
	keeps(t, list, retain.Policy{Last: 2}, 2, 4)
	keeps(t, list, retain.Policy{Last: 3}, 0, 2, 4)
	keeps(t, list, retain.Policy{Last: 4}, 0, 2, 3, 4)
	keeps(t, list, retain.Policy{Days: 2, Day: 1}, 3, 4)
	keeps(t, list, retain.Policy{Days: 2, Day: 10}, 4)
	keeps(t, list, retain.Policy{Within: 1}, 0, 2, 4)
}

func TestTheLastOneOfEachOfTheLastDaysIsKept(t *testing.T) {
	// Days 0, 0, 1, 3, 3, 3, 9.
	list := at(90, 3, 39, 30, 10, 9, 31)
	for _, n := range []int{0, -1, math.MinInt} {
		keeps(t, list, retain.Policy{Days: n, Day: 10})
	}
	keeps(t, list, retain.Policy{Days: 1, Day: 10}, 0)
	keeps(t, list, retain.Policy{Days: 2, Day: 10}, 0, 2)
	keeps(t, list, retain.Policy{Days: 3, Day: 10}, 0, 2, 4)
	for _, n := range []int{4, 5, math.MaxInt} {
		keeps(t, list, retain.Policy{Days: n, Day: 10}, 0, 2, 4, 5)
	}
	keeps(t, list, retain.Policy{Days: 3, Day: 1}, 0, 2, 6)
	keeps(t, list, retain.Policy{Days: 3, Day: 91}, 0)
	keeps(t, list, retain.Policy{Days: 3, Day: 90}, 0, 2)
	keeps(t, list, retain.Policy{Days: 3, Day: math.MaxInt64}, 0)
	daysAre(t, list, 10, 9, 3, 1, 0)
	daysAre(t, list, 1, 90, 39, 31, 30, 10, 9, 3)
	daysAre(t, list, 90, 1, 0)
	daysAre(t, list, 91, 0)
}

func TestADayBelowOneIsNone(t *testing.T) {
	list := at(3, 1, 2)
	for _, day := range []int64{0, -1, -10, math.MinInt64} {
		keeps(t, list, retain.Policy{Days: 9, Day: day})
		keeps(t, list, retain.Policy{Days: 9, Day: day, Last: 1}, 0)
		daysAre(t, list, day)
	}
	keeps(t, list, retain.Policy{Days: 9})
}

func TestDaysAreRoundedDown(t *testing.T) {
	list := at(-11, -10, -9, -1, 0, 1, 9, 10)
	daysAre(t, list, 10, 1, 0, -1, -2)
	keeps(t, list, retain.Policy{Days: 9, Day: 10}, 0, 3, 6, 7)
	keeps(t, list, retain.Policy{Days: 3, Day: 10}, 3, 6, 7)
	ends := at(math.MinInt64, math.MinInt64+1, -1, 0, math.MaxInt64-1, math.MaxInt64)
	daysAre(t, ends, math.MaxInt64, 1, 0, -1, -2)
	daysAre(t, ends, 1, math.MaxInt64, math.MaxInt64-1, 0, -1, math.MinInt64+1, math.MinInt64)
	daysAre(t, ends, 1<<62, 1, 0, -1, -2)
	keeps(t, ends, retain.Policy{Days: 9, Day: math.MaxInt64}, 0, 2, 4, 5)
	keeps(t, ends, retain.Policy{Days: 2, Day: 1 << 62}, 3, 5)
}

func TestWhatIsWithinIsKept(t *testing.T) {
	list := at(100, 90, 91, 89, 100)
	for _, within := range []int64{0, -1, -100, math.MinInt64} {
		keeps(t, list, retain.Policy{Within: within})
	}
	keeps(t, list, retain.Policy{Within: 1}, 0, 4)
	keeps(t, list, retain.Policy{Within: 9}, 0, 4)
	keeps(t, list, retain.Policy{Within: 10}, 0, 2, 4)
	keeps(t, list, retain.Policy{Within: 11}, 0, 1, 2, 4)
	keeps(t, list, retain.Policy{Within: 12}, 0, 1, 2, 3, 4)
	keeps(t, list, retain.Policy{Within: math.MaxInt64}, 0, 1, 2, 3, 4)
}

func TestWithinAtTheEndsOfNumbers(t *testing.T) {
	most, least := int64(math.MaxInt64), int64(math.MinInt64)
	keeps(t, at(least, most), retain.Policy{Within: most}, 1)
	keeps(t, at(least, -1), retain.Policy{Within: most}, 1)
	keeps(t, at(least, -2), retain.Policy{Within: most}, 0, 1)
	keeps(t, at(least, least+5), retain.Policy{Within: most}, 0, 1)
	keeps(t, at(least, least+5), retain.Policy{Within: 5}, 1)
	keeps(t, at(least, least+5), retain.Policy{Within: 6}, 0, 1)
	keeps(t, at(0, most), retain.Policy{Within: most}, 1)
	keeps(t, at(1, most), retain.Policy{Within: most}, 0, 1)
	keeps(t, at(least), retain.Policy{Within: 1}, 0)
}

func TestATagIsKept(t *testing.T) {
	list := []snap.Snap{{Time: 4, Host: "a"}, {Time: 1, Tag: "x"}, {Time: 3, Tag: "xx"}, {Time: 2, Tag: "x"}}
	keeps(t, list, retain.Policy{Tag: "x"}, 1, 3)
	keeps(t, list, retain.Policy{Tag: "xx"}, 2)
	for _, tag := range []string{"", "X", "xxx", "a", "x\x00", " x"} {
		keeps(t, list, retain.Policy{Tag: tag})
	}
	// A tag that layer 11 doesn't take is one even so.
	keeps(t, []snap.Snap{{Tag: "no part/"}, {}}, retain.Policy{Tag: "no part/"}, 0)
}

func TestEachKindKeepsWhateverTheOthersDo(t *testing.T) {
	list := at(50, 41, 49, 31, 39, 10, 0)
	list[5].Tag = "x"
	keeps(t, list, retain.Policy{Last: 2, Days: 3, Day: 10, Within: 10, Tag: "x"}, 0, 1, 2, 4, 5)
	keeps(t, list, retain.Policy{Last: 2, Days: 3, Day: 10, Tag: "x"}, 0, 2, 4, 5)
	// What is kept by another kind counts as a day's last one, and as one of the last, too.
	keeps(t, list, retain.Policy{Last: 1, Days: 1, Day: 10, Within: 1}, 0)
	keeps(t, list, retain.Policy{})
}

func TestOfNoSnapshots(t *testing.T) {
	all := retain.Policy{Last: 9, Days: 9, Day: 1, Within: 9, Tag: "x"}
	for _, list := range [][]snap.Snap{nil, {}, make([]snap.Snap, 0, 5)} {
		keeps(t, list, all)
		keeps(t, list, retain.Policy{})
		daysAre(t, list, 1)
		daysAre(t, list, 0)
	}
}

func TestGoneIsGoneThroughAgainAndStoppedAnywhere(t *testing.T) {
	list := at(5, 1, 9, 2, 8)
	seq := retain.Gone(list, retain.Policy{Last: 2})
	// What is handed in may be written over behind the call.
	clear(list)
	want := []int{0, 1, 3}
	for range 2 {
		if got := slices.Collect(seq); !slices.Equal(got, want) {
			t.Fatalf("%v", got)
		}
		for n := range want {
			var got []int
			for place := range seq {
				if got = append(got, place); len(got) == n+1 {
					break
				}
			}
			if !slices.Equal(got, want[:n+1]) {
				t.Fatalf("stopped behind %d: %v", n+1, got)
			}
		}
	}
	// Within itself, too.
	n := 0
	for range seq {
		for range seq {
			n++
		}
	}
	if n != len(want)*len(want) {
		t.Errorf("%d within itself", n)
	}
}

func TestListsAreNeitherTurnedNorShared(t *testing.T) {
	memory := append(at(5, 1, 9, 2, 8), at(77, 78)...)
	given := slices.Clone(memory)
	list := memory[:5]
	p := retain.Policy{Last: 1, Days: 2, Day: 4, Within: 2, Tag: "x"}
	kept, days := retain.Keep(list, p), retain.Days(list, 4)
	retain.Gone(list, p)
	if !slices.Equal(memory, given) {
		t.Error("what was handed in was turned")
	}
	clear(kept[:cap(kept)])
	clear(days[:cap(days)])
	keeps(t, list, p, 0, 2, 4)
	daysAre(t, list, 4, 2, 1, 0)
}
