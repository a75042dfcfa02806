package retain_test

import (
	"math"
	"math/big"
	"math/rand"
	"slices"
	"testing"

	"coldstore/api"
	"coldstore/retain"
	"coldstore/snap"
)

// isBehind tells whether the snapshot at i is behind that at j in the list that is sorted.
func isBehind(list []snap.Snap, i, j int) bool {
	return snap.Less(list[j], list[i]) || i > j && list[i] == list[j]
}

// modelDay is a time by a day, rounded down.
func modelDay(time, day int64) int64 {
	// Div rounds down, as long as the day is above 0.
	return new(big.Int).Div(big.NewInt(time), big.NewInt(day)).Int64()
}

// modelKeep is what Keep should answer, word by word.
func modelKeep(list []snap.Snap, p retain.Policy) []bool {
	kept := make([]bool, len(list))
	for i, s := range list {
		behind, lastOfDay, days, newest := 0, p.Day > 0, map[int64]bool{}, s.Time
		for j, other := range list {
			newest = max(newest, other.Time)
			if isBehind(list, j, i) {
				behind++
			}
			if p.Day < 1 {
				continue
			}
			switch mine, its := modelDay(s.Time, p.Day), modelDay(other.Time, p.Day); {
			case its > mine:
				days[its] = true
			case its == mine && isBehind(list, j, i):
				lastOfDay = false
			}
		}
		bound := new(big.Int).Sub(big.NewInt(newest), big.NewInt(p.Within))
		kept[i] = behind < p.Last ||
			lastOfDay && len(days) < p.Days ||
			p.Within > 0 && big.NewInt(s.Time).Cmp(bound) > 0 ||
			p.Tag != "" && s.Tag == p.Tag
	}
	return kept
}

// modelDays is what Days should answer.
func modelDays(list []snap.Snap, day int64) []int64 {
	var days []int64
	for _, s := range list {
		if day > 0 && !slices.Contains(days, modelDay(s.Time, day)) {
			days = append(days, modelDay(s.Time, day))
		}
	}
	slices.Sort(days)
	slices.Reverse(days)
	return days
}

// number is a number: a small one, or, rarely, one near the ends of numbers.
func number(r *rand.Rand, most int64) int64 {
	n := r.Int63n(2*most) - most/2
	switch r.Intn(40) {
	case 0:
		return math.MaxInt64 - r.Int63n(3)
	case 1:
		return math.MinInt64 + r.Int63n(3)
	}
	return n
}

// chosen is some snapshots, of which some are the same.
func chosen(r *rand.Rand) []snap.Snap {
	var list []snap.Snap
	most := int64(1 + r.Intn(60))
	n := r.Intn(14)
	if r.Intn(1000) == 0 {
		n = 150
	}
	for range n {
		s := snap.Snap{Time: number(r, most), Host: string(rune('a' + r.Intn(2))), Root: api.ID{byte(r.Intn(2))}}
		if r.Intn(3) == 0 {
			s.Tag = string(rune('x' + r.Intn(2)))
		}
		list = append(list, s)
	}
	return list
}

// policy is some policy, some of whose kinds keep nothing.
func policy(r *rand.Rand) retain.Policy {
	p := retain.Policy{Day: number(r, 20)}
	if r.Intn(2) == 0 {
		p.Last = int(number(r, 5))
	}
	if r.Intn(3) > 0 {
		p.Days = int(number(r, 5))
	}
	if r.Intn(2) == 0 {
		p.Within = number(r, 30)
	}
	if r.Intn(3) == 0 {
		p.Tag = "x"
	}
	return p
}

func TestEveryList(t *testing.T) {
	r := rand.New(rand.NewSource(19))
	some := 0
	for range 30000 {
		list, p := chosen(r), policy(r)
		want := modelKeep(list, p)
		if got := retain.Keep(list, p); !slices.Equal(got, want) {
			t.Fatalf("%v of %v: %v, not %v", p, list, got, want)
		}
		n := 0
		for place := range retain.Gone(list, p) {
			for ; want[n]; n++ {
			}
			if place != n {
				t.Fatalf("%v of %v: %d is gone, not %d", p, list, place, n)
			}
			n++
		}
		if slices.Contains(want[n:], false) {
			t.Fatalf("%v of %v: none behind %d is gone", p, list, n)
		}
		daysAre(t, list, p.Day, modelDays(list, p.Day)...)
		if t.Failed() {
			t.FailNow()
		}
		if slices.Contains(want, true) && slices.Contains(want, false) {
			some++
		}
	}
	if some < 10000 {
		t.Errorf("of %d lists some were kept, and some weren't", some)
	}
}

// more is a policy that keeps as many of each kind, or more.
func more(r *rand.Rand, p retain.Policy) retain.Policy {
	if r.Intn(2) == 0 {
		p.Last += r.Intn(min(3, math.MaxInt-max(p.Last, 0)) + 1)
	}
	if r.Intn(2) == 0 {
		p.Days += r.Intn(min(3, math.MaxInt-max(p.Days, 0)) + 1)
	}
	if r.Intn(2) == 0 {
		p.Within = max(p.Within, number(r, 60))
	}
	if p.Tag == "" && r.Intn(2) == 0 {
		p.Tag = "y"
	}
	return p
}

func TestWithMoreKeptNothingGoesThatWasKept(t *testing.T) {
	r := rand.New(rand.NewSource(91))
	grown := 0
	for range 20000 {
		list, p := chosen(r), policy(r)
		q := more(r, p)
		few, many := retain.Keep(list, p), retain.Keep(list, q)
		for i := range few {
			if few[i] && !many[i] {
				t.Fatalf("%v, then %v, of %v: %d went", p, q, list, i)
			}
		}
		if !slices.Equal(few, many) {
			grown++
		}
	}
	if grown < 2000 {
		t.Errorf("of %d lists more was kept", grown)
	}
}

func TestWhatIsKeptIsKeptWhenTheOthersAreGone(t *testing.T) {
	r := rand.New(rand.NewSource(92))
	fewer := 0
	for range 20000 {
		list, p := chosen(r), policy(r)
		// All of the others may be gone, or some of them.
		stay := r.Intn(3)
		var left []snap.Snap
		var want []bool
		for i, kept := range retain.Keep(list, p) {
			if kept || r.Intn(4) < stay {
				left, want = append(left, list[i]), append(want, kept)
			}
		}
		if got := retain.Keep(left, p); !slices.Equal(got, want) {
			t.Fatalf("%v of %v: of %v kept is %v, not %v", p, list, left, got, want)
		}
		if len(left) < len(list) && slices.Contains(want, true) {
			fewer++
		}
	}
	if fewer < 5000 {
		t.Errorf("of %d lists some went, and some didn't", fewer)
	}
}
