package verify_test

import (
	"slices"
	"testing"

	"coldstore/api"
	"coldstore/verify"
)

// pair is what All tells of a blob, or a pack.
type pair struct {
	what int
	id   api.ID
}

// pairs is the first so many of what is wrong.
func pairs(r verify.Report, most int) []pair {
	var list []pair
	for what, id := range verify.All(r) {
		list = append(list, pair{what, id})
		if len(list) == most {
			break
		}
	}
	return list
}

func TestGood(t *testing.T) {
	ids := []api.ID{{}}
	for _, c := range []struct {
		r    verify.Report
		want bool
	}{
		{verify.Report{}, true},
		{verify.Report{Missing: []api.ID{}, Lost: []api.ID{}, Bad: []api.ID{}}, true},
		{verify.Report{Missing: ids}, false},
		{verify.Report{Lost: ids}, false},
		{verify.Report{Bad: ids}, false},
		{verify.Report{Missing: ids, Lost: ids, Bad: ids}, false},
	} {
		if got := verify.Good(c.r); got != c.want {
			t.Errorf("%v: %v", c.r, got)
		}
	}
}

func TestAll(t *testing.T) {
	if got := pairs(verify.Report{}, 9); len(got) > 0 {
		t.Errorf("of nothing: %v", got)
	}
	// As they stand there, whether they rise or not, and each as often.
	r := verify.Report{Missing: []api.ID{{9}, {3}}, Lost: []api.ID{{3}}, Bad: []api.ID{{7}, {7}, {1}}}
	want := []pair{{0, api.ID{9}}, {0, api.ID{3}}, {1, api.ID{3}}, {2, api.ID{7}}, {2, api.ID{7}}, {2, api.ID{1}}}
	for most := 1; most <= len(want); most++ {
		if got := pairs(r, most); !slices.Equal(got, want[:most]) {
			t.Errorf("the first %d: %v", most, got)
		}
	}
	if got := pairs(verify.Report{Lost: []api.ID{{5}}}, 9); !slices.Equal(got, []pair{{1, api.ID{5}}}) {
		t.Errorf("what is lost alone: %v", got)
	}
}

func TestAllGoesAgain(t *testing.T) {
	r := verify.Report{Missing: []api.ID{{1}}, Lost: []api.ID{{2}}, Bad: []api.ID{{3}}}
	all := verify.All(r)
	// What was handed in may be written over.
	r.Missing[0], r.Lost[0], r.Bad[0] = api.ID{9}, api.ID{9}, api.ID{9}
	for range 3 {
		var got []pair
		for what, id := range all {
			got = append(got, pair{what, id})
		}
		if !slices.Equal(got, []pair{{0, api.ID{1}}, {1, api.ID{2}}, {2, api.ID{3}}}) {
			t.Errorf("%v", got)
		}
		for range all {
			break
		}
	}
}

func TestAllTurnsNothing(t *testing.T) {
	spare := []api.ID{{1}, {2}}
	r := verify.Report{Missing: spare[:1], Lost: spare[:1], Bad: spare[:1]}
	if verify.Good(r) || len(pairs(r, 9)) != 3 {
		t.Error("three are wrong")
	}
	if !slices.Equal(spare, []api.ID{{1}, {2}}) {
		t.Errorf("%v", spare)
	}
}
