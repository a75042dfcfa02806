package forget_test

import (
	"maps"
	"math/rand"
	"slices"
	"strconv"
	"strings"
	"testing"

	"coldstore/api"
	"coldstore/backup"
	"coldstore/forget"
	"coldstore/guard"
	"coldstore/object"
	"coldstore/retain"
	"coldstore/snap"
)

// things is a store's things by their names.
func things(s *object.Store) map[string]int {
	return maps.Collect(s.All())
}

// filled is a store of six snapshots of two hosts, sorted, and of what is none.
func filled(t *testing.T) (*object.Store, []backup.Named) {
	t.Helper()
	s := store(t)
	var list []backup.Named
	for time := range int64(6) {
		list = append(list, kept(t, s, snap.Snap{Time: time, Host: string(rune('a' + time%2)), Tag: "x"}))
	}
	put(t, s, "snap/junk", []byte("junk"))
	put(t, s, "snap", []byte("s"))
	put(t, s, "pack/"+list[0].Name[5:], []byte("p"))
	put(t, s, "index", []byte("i"))
	return s, list
}

func TestRunLetsGoWhatIsPlanned(t *testing.T) {
	for i, c := range []struct {
		host string
		p    retain.Policy
		want []int
	}{
		{"", retain.Policy{}, []int{0, 1, 2, 3, 4, 5}},
		{"", retain.Policy{Last: 1}, []int{0, 1, 2, 3}},
		{"", retain.Policy{Last: 3}, nil},
		{"a", retain.Policy{Last: 1}, []int{0, 2}},
		{"b", retain.Policy{Within: 3}, []int{1}},
		{"b", retain.Policy{}, []int{1, 3, 5}},
		{"c", retain.Policy{}, nil},
		{"", retain.Policy{Tag: "x"}, nil},
		{"", retain.Policy{Tag: "y"}, []int{0, 1, 2, 3, 4, 5}},
	} {
		s, list := filled(t)
		had, ops := things(s), s.Ops()
		var want []string
		for _, at := range c.want {
			want = append(want, list[at].Name)
			delete(had, list[at].Name)
		}
		if got, e := forget.Run(s, c.host, c.p); e != api.OK || !slices.Equal(got, want) {
			t.Errorf("case %d: %v %d, not %v", i, got, e, want)
		}
		// One List, a Get of each name that begins with snap/, and a Drop of each that goes.
		if s.Ops() != ops+1+7+len(want) || !maps.Equal(things(s), had) {
			t.Errorf("case %d: %d operations, %v", i, s.Ops()-ops, things(s))
		}
		lists(t, s, without(list, want))
		// Behind it nothing is left to be done.
		if got, e := forget.Run(s, c.host, c.p); e != api.OK || len(got) != 0 {
			t.Errorf("case %d, again: %v %d", i, got, e)
		}
	}
}

func TestRunOfAnEmptyStore(t *testing.T) {
	s := store(t)
	if got, e := forget.Run(s, "", retain.Policy{}); e != api.OK || len(got) != 0 || s.Ops() != 1 {
		t.Errorf("%v %d, %d operations", got, e, s.Ops())
	}
}

func TestAFaultEndsRun(t *testing.T) {
	p := retain.Policy{Last: 1}
	for n := range 13 {
		s, list := filled(t)
		ops := s.Ops()
		s.Arm(nil, append(make([]bool, n), true))
		got, e := forget.Run(s, "", p)
		s.Arm(nil, nil)
		// Eight operations are ahead of the first Drop, and there are four of these.
		want, fails := names(list[:min(max(n-8, 0), 4)]), n < 12
		if fails != (e == api.ErrFault) || fails == (e == api.OK) || !slices.Equal(got, want) || fails && s.Ops() != ops+n+1 {
			t.Errorf("a fault behind %d: %v %d, not %v", n, got, e, want)
		}
		lists(t, s, without(list, want))
		// It is gone on with.
		if got, e := forget.Run(s, "", p); e != api.OK || !slices.Equal(got, names(list[len(want):4])) {
			t.Errorf("behind a fault behind %d: %v %d", n, got, e)
		}
		lists(t, s, list[4:])
	}
}

func TestThePowerGoesWithinRun(t *testing.T) {
	for n := range 12 {
		s, list := filled(t)
		fuse := guard.NewFuse(n)
		s.Arm(fuse, nil)
		through := true
		blew := fuse.Catch(func() {
			guard.Run(func() { forget.Run(s, "", retain.Policy{Last: 1}) })
			through = false
		})
		s.Arm(nil, nil)
		if !blew || !through {
			t.Errorf("behind %d: %v %v", n, blew, through)
		}
		lists(t, s, list[max(n-8, 0):])
	}
}

func TestOnly(t *testing.T) {
	for i, want := range [][]int{{}, {0}, {5}, {4, 1, 3}, {0, 1, 2, 3, 4, 5}, {5, 4, 3, 2, 1, 0}} {
		s, list := filled(t)
		had, ops := things(s), s.Ops()
		var ask []string
		for _, at := range want {
			ask = append(ask, list[at].Name)
			delete(had, list[at].Name)
		}
		given := slices.Clone(ask)
		got, e := forget.Only(s, ask)
		if e != api.OK || !slices.Equal(got, ask) || !slices.Equal(ask, given) {
			t.Errorf("case %d: %v %d", i, got, e)
		}
		if s.Ops() != ops+len(ask) || !maps.Equal(things(s), had) {
			t.Errorf("case %d: %d operations", i, s.Ops()-ops)
		}
		lists(t, s, without(list, ask))
		clear(ask)
		if !slices.Equal(got, given) {
			t.Errorf("case %d: the names were kept", i)
		}
	}
	s := store(t)
	if got, e := forget.Only(s, nil); e != api.OK || len(got) != 0 || s.Ops() != 0 {
		t.Errorf("of no names: %v %d", got, e)
	}
}

func TestOnlyOfWhatIsNotThere(t *testing.T) {
	s, list := filled(t)
	ops := s.Ops()
	none := "snap/" + strings.Repeat("0", 64)
	ask := []string{none, list[2].Name, "snap/", list[2].Name, "snap/" + strings.Repeat("x", 1000), "snap/ ", "snap/junk", list[0].Name, none}
	// What isn't there doesn't end it; whatever has such a name goes, a snapshot or not.
	if got, e := forget.Only(s, ask); e != api.OK || !slices.Equal(got, []string{list[2].Name, "snap/junk", list[0].Name}) || s.Ops() != ops+len(ask) {
		t.Errorf("%v %d, %d operations", got, e, s.Ops()-ops)
	}
	lists(t, s, without(list, ask))
}

func TestOnlyOfWrongNames(t *testing.T) {
	for _, wrong := range []string{"", "snap", "snap-", "Snap/x", " snap/x", "pack/x", "index", "xsnap/x", "/snap/x", "snapx/", strings.Repeat("0", 64)} {
		s, list := filled(t)
		had, ops := things(s), s.Ops()
		for _, ask := range [][]string{{wrong}, {list[0].Name, wrong}, {wrong, list[0].Name}, {list[0].Name, wrong, list[1].Name}} {
			// A fault would be an operation's.
			s.Arm(guard.NewFuse(0), []bool{true})
			if got, e := forget.Only(s, ask); e != api.ErrName || len(got) != 0 || s.Ops() != ops || !maps.Equal(things(s), had) {
				t.Errorf("%q: %v %d", ask, got, e)
			}
		}
	}
}

func TestAFaultEndsOnly(t *testing.T) {
	for n := range 5 {
		s, list := filled(t)
		ops := s.Ops()
		ask := []string{list[3].Name, "snap/none", list[1].Name, list[5].Name}
		s.Arm(nil, append(make([]bool, n), true))
		got, e := forget.Only(s, ask)
		s.Arm(nil, nil)
		want := slices.DeleteFunc(slices.Clone(ask[:min(n, 4)]), func(name string) bool { return name == "snap/none" })
		if (e == api.ErrFault) != (n < 4) || (e == api.OK) != (n == 4) || !slices.Equal(got, want) || s.Ops() != ops+min(n+1, 4) {
			t.Errorf("a fault behind %d: %v %d, not %v", n, got, e, want)
		}
		lists(t, s, without(list, want))
	}
}

func TestThePowerGoesWithinOnly(t *testing.T) {
	for n := range 3 {
		s, list := filled(t)
		fuse := guard.NewFuse(n)
		s.Arm(fuse, nil)
		if !fuse.Catch(func() { forget.Only(s, names(list[1:4])) }) {
			t.Errorf("behind %d it doesn't go", n)
		}
		s.Arm(nil, nil)
		lists(t, s, without(list, names(list[1:1+n])))
	}
}

// forgetting is a call that lets snapshots go, of a list: those that should, in order, and the call.
func forgetting(r *rand.Rand, s *object.Store, list []backup.Named) ([]string, func() ([]string, api.Errno)) {
	if r.Intn(2) == 0 {
		host, p := []string{"", "a", "b", "c"}[r.Intn(4)], policy(r)
		return names(forget.Plan(list, host, p)), func() ([]string, api.Errno) { return forget.Run(s, host, p) }
	}
	var ask, want []string
	for _, at := range r.Perm(len(list))[:r.Intn(min(len(list), 5)+1)] {
		if r.Intn(5) == 0 {
			ask = append(ask, "snap/"+strconv.Itoa(at))
		}
		ask = append(ask, list[at].Name)
		want = append(want, list[at].Name)
	}
	return want, func() ([]string, api.Errno) { return forget.Only(s, ask) }
}

func TestWhatIsKeptIsListed(t *testing.T) {
	r := rand.New(rand.NewSource(22))
	ends := map[api.Errno]int{}
	for range 100 {
		s := store(t)
		all := map[snap.Snap]backup.Named{}
		for range 30 {
			for range r.Intn(5) {
				x := chosen(r)
				all[x] = kept(t, s, x)
			}
			var list []backup.Named
			for _, x := range snap.Sort(slices.Collect(maps.Keys(all))) {
				list = append(list, all[x])
			}
			want, call := forgetting(r, s, list)
			fuse := guard.NewFuse(r.Intn(60) - 1)
			faults := make([]bool, 60)
			faults[r.Intn(60)] = r.Intn(3) > 0
			s.Arm(fuse, faults)
			var got []string
			var e api.Errno
			if fuse.Catch(func() { got, e = call() }) {
				e = api.ErrCrash
			}
			s.Arm(nil, nil)
			ends[e]++
			now, wrong := backup.List(s)
			gone := len(list) - len(now)
			// What went is what should go ahead of all else, as far as it was come.
			if wrong != api.OK || gone > len(want) || !slices.Equal(now, without(list, want[:gone])) {
				t.Fatalf("%d: %v of %v, not of %v", e, now, list, want)
			}
			if e != api.ErrCrash && !slices.Equal(got, want[:gone]) || e == api.OK && gone < len(want) {
				t.Fatalf("%d: %v, %d of %v", e, got, gone, want)
			}
			for _, name := range want[:gone] {
				maps.DeleteFunc(all, func(_ snap.Snap, n backup.Named) bool { return n.Name == name })
			}
		}
	}
	for _, e := range []api.Errno{api.OK, api.ErrFault, api.ErrCrash} {
		if ends[e] < 50 {
			t.Errorf("%d was answered %d times", e, ends[e])
		}
	}
}
