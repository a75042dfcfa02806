package forget_test

import (
	"math/rand"
	"slices"
	"strconv"
	"testing"

	"coldstore/api"
	"coldstore/backup"
	"coldstore/forget"
	"coldstore/object"
	"coldstore/retain"
	"coldstore/snap"
)

// store is a store with room enough.
func store(t *testing.T) *object.Store {
	t.Helper()
	s, e := object.New(1 << 24)
	if e != api.OK {
		t.Fatal(e)
	}
	return s
}

// put puts a thing.
func put(t *testing.T, s *object.Store, name string, b []byte) {
	t.Helper()
	if e := s.Put(name, b); e != api.OK {
		t.Fatalf("%s: %d", name, e)
	}
}

// kept puts a snapshot into a store: it, by its name.
func kept(t *testing.T, s *object.Store, x snap.Snap) backup.Named {
	t.Helper()
	b, e := snap.Encode(x)
	if e != api.OK {
		t.Fatalf("%v: %d", x, e)
	}
	put(t, s, snap.Name(b), b)
	return backup.Named{Name: snap.Name(b), Snap: x}
}

// names is the names of snapshots.
func names(list []backup.Named) []string {
	var all []string
	for _, n := range list {
		all = append(all, n.Name)
	}
	return all
}

// lists tells which snapshots a store has, in order.
func lists(t *testing.T, s *object.Store, want []backup.Named) {
	t.Helper()
	if got, e := backup.List(s); e != api.OK || !slices.Equal(got, want) {
		t.Errorf("List: %v %d, not %v", got, e, want)
	}
}

// without is a list, without those of some names.
func without(list []backup.Named, gone []string) []backup.Named {
	return slices.DeleteFunc(slices.Clone(list), func(n backup.Named) bool { return slices.Contains(gone, n.Name) })
}

// mixed is snapshots of three hosts, in no order.
func mixed() []backup.Named {
	return []backup.Named{
		{Name: "0", Snap: snap.Snap{Time: 5, Host: "a"}},
		{Name: "1", Snap: snap.Snap{Time: 1, Host: "b"}},
		{Name: "2", Snap: snap.Snap{Time: 3, Host: "a", Tag: "x"}},
		{Name: "3", Snap: snap.Snap{Time: 9, Host: "b"}},
		{Name: "4", Snap: snap.Snap{Time: 1, Host: "a"}},
		{Name: "5", Snap: snap.Snap{Time: 7, Host: "c"}},
	}
}

func TestPlan(t *testing.T) {
	for i, c := range []struct {
		host string
		p    retain.Policy
		want []string
	}{
		{"a", retain.Policy{}, []string{"0", "2", "4"}},
		{"a", retain.Policy{Last: 1}, []string{"2", "4"}},
		{"a", retain.Policy{Last: 2}, []string{"4"}},
		{"a", retain.Policy{Last: 3}, nil},
		{"a", retain.Policy{Tag: "x"}, []string{"0", "4"}},
		{"a", retain.Policy{Days: 2, Day: 3}, []string{"2"}},
		{"a", retain.Policy{Within: 3}, []string{"4"}},
		{"a", retain.Policy{Within: 2}, []string{"2", "4"}},
		{"b", retain.Policy{Last: 1}, []string{"1"}},
		{"c", retain.Policy{Last: 1}, nil},
		{"c", retain.Policy{}, []string{"5"}},
		// Each host's last one, newest one, and days are its own.
		{"", retain.Policy{}, []string{"0", "1", "2", "3", "4", "5"}},
		{"", retain.Policy{Last: 1}, []string{"1", "2", "4"}},
		{"", retain.Policy{Last: 2}, []string{"4"}},
		{"", retain.Policy{Last: 3}, nil},
		{"", retain.Policy{Within: 3}, []string{"1", "4"}},
		{"", retain.Policy{Days: 1, Day: 4}, []string{"1", "2", "4"}},
		{"", retain.Policy{Days: 2, Day: 4}, []string{"4"}},
		{"", retain.Policy{Tag: "x"}, []string{"0", "1", "3", "4", "5"}},
		{"", retain.Policy{Tag: "x", Last: 1}, []string{"1", "4"}},
		// There is no such host.
		{"d", retain.Policy{}, nil},
		{"A", retain.Policy{}, nil},
		{"aa", retain.Policy{}, nil},
		{"a ", retain.Policy{}, nil},
	} {
		if got := names(forget.Plan(mixed(), c.host, c.p)); !slices.Equal(got, c.want) {
			t.Errorf("case %d: %v, not %v", i, got, c.want)
		}
	}
}

func TestPlanOfOddLists(t *testing.T) {
	for _, list := range [][]backup.Named{nil, {}} {
		for _, host := range []string{"", "a"} {
			if got := forget.Plan(list, host, retain.Policy{}); len(got) != 0 {
				t.Errorf("of nothing: %v", got)
			}
		}
	}
	// What no snapshot may be is planned even so: the host without a name is one for itself.
	list := []backup.Named{{}, {Snap: snap.Snap{Time: -1}}, {Snap: snap.Snap{Host: "/"}}, {Snap: snap.Snap{Host: "a"}}, {Snap: snap.Snap{Time: 1}}}
	if got := forget.Plan(list, "", retain.Policy{Last: 1}); !slices.Equal(got, list[:2]) {
		t.Errorf("%v", got)
	}
	if got := forget.Plan(list, "/", retain.Policy{}); !slices.Equal(got, list[2:3]) {
		t.Errorf("%v", got)
	}
	// Of the same ones that which stands first is ahead.
	twice := []backup.Named{{Name: "z"}, {Name: "a"}, {Name: "z"}}
	if got := forget.Plan(twice, "", retain.Policy{Last: 1}); !slices.Equal(got, twice[:2]) {
		t.Errorf("%v", got)
	}
}

// policy is a policy, one of many.
func policy(r *rand.Rand) retain.Policy {
	p := retain.Policy{Last: r.Intn(4) - 1, Days: r.Intn(4) - 1, Day: int64(r.Intn(5) - 1), Within: int64(r.Intn(6) - 1)}
	if r.Intn(3) == 0 {
		p.Tag = "x"
	}
	return p
}

// chosen is a snapshot, one of many.
func chosen(r *rand.Rand) snap.Snap {
	return snap.Snap{Time: int64(r.Intn(12)), Host: string(rune('a' + r.Intn(3))), Tag: []string{"", "x", "y"}[r.Intn(3)]}
}

func TestPlanOfManyLists(t *testing.T) {
	r := rand.New(rand.NewSource(21))
	for range 3000 {
		var list []backup.Named
		for i := range r.Intn(20) {
			list = append(list, backup.Named{Name: strconv.Itoa(i), Snap: chosen(r)})
		}
		p := policy(r)
		host := []string{"", "a", "b", "c", "d"}[r.Intn(5)]
		// One by one: is it kept among those of its host?
		var want []backup.Named
		for at, n := range list {
			var own []snap.Snap
			place := 0
			for i, other := range list {
				if other.Snap.Host != n.Snap.Host {
					continue
				}
				if i == at {
					place = len(own)
				}
				own = append(own, other.Snap)
			}
			if (host == "" || n.Snap.Host == host) && !retain.Keep(own, p)[place] {
				want = append(want, n)
			}
		}
		given := slices.Clone(list)
		if got := forget.Plan(list, host, p); !slices.Equal(got, want) {
			t.Fatalf("%v of %q by %v: %v, not %v", list, host, p, got, want)
		}
		if !slices.Equal(list, given) {
			t.Fatal("what was handed in was turned")
		}
	}
}

func TestAPlanIsNewMemory(t *testing.T) {
	memory := mixed()
	got := forget.Plan(memory[:4], "", retain.Policy{})
	clear(got[:cap(got)])
	if !slices.Equal(memory, mixed()) {
		t.Error("a plan shares memory with its list")
	}
	got = forget.Plan(memory, "", retain.Policy{})
	clear(memory)
	if !slices.Equal(got, mixed()) {
		t.Error("the list was kept")
	}
}
