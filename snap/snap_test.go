package snap_test

import (
	"bytes"
	"math"
	"math/rand"
	"slices"
	"strings"
	"testing"

	"coldstore/api"
	"coldstore/snap"
)

// long is as long as a part may be.
var long = strings.Repeat("z", 40)

// right is a right snapshot.
func right() snap.Snap {
	return snap.Snap{Time: 5, Host: "a", Tag: "b", Root: api.ID{1, 31: 2}, Files: 3, Bytes: 4}
}

// with is a right snapshot, turned.
func with(turn func(*snap.Snap)) snap.Snap {
	s := right()
	turn(&s)
	return s
}

// parts and noParts are texts that are parts, and texts that aren't.
var parts = []string{"a", "z", "0", "9", "...", ".a", "a.", "_", "-", "a-b_c.d", long}
var noParts = []string{".", "..", "/", "a/", "/a", "a/b", "a/b/c", "A", "a b", " ", "a\n", "\x00", "é", "\xff", "a~", long + "z", strings.Repeat("z", 1000)}

func TestCheckOfNumbers(t *testing.T) {
	for _, c := range []struct {
		s    snap.Snap
		want api.Errno
	}{
		{right(), api.OK},
		{with(func(s *snap.Snap) { s.Time = 0 }), api.OK},
		{with(func(s *snap.Snap) { s.Time = 1 << 50 }), api.OK},
		{with(func(s *snap.Snap) { s.Time = 1<<50 + 1 }), api.ErrRange},
		{with(func(s *snap.Snap) { s.Time = math.MaxInt64 }), api.ErrRange},
		{with(func(s *snap.Snap) { s.Time = -1 }), api.ErrRange},
		{with(func(s *snap.Snap) { s.Time = math.MinInt64 }), api.ErrRange},
		{with(func(s *snap.Snap) { s.Files = 0 }), api.OK},
		{with(func(s *snap.Snap) { s.Files = 512 }), api.OK},
		{with(func(s *snap.Snap) { s.Files = 513 }), api.ErrRange},
		{with(func(s *snap.Snap) { s.Files = 1 << 32 }), api.ErrRange},
		{with(func(s *snap.Snap) { s.Files = math.MaxInt }), api.ErrRange},
		{with(func(s *snap.Snap) { s.Files = -1 }), api.ErrRange},
		{with(func(s *snap.Snap) { s.Files = math.MinInt }), api.ErrRange},
		{with(func(s *snap.Snap) { s.Bytes = 0 }), api.OK},
		{with(func(s *snap.Snap) { s.Bytes = math.MaxInt64 }), api.OK},
		{with(func(s *snap.Snap) { s.Bytes = -1 }), api.ErrRange},
		{with(func(s *snap.Snap) { s.Bytes = math.MinInt64 }), api.ErrRange},
		{with(func(s *snap.Snap) { s.Root = api.ID{} }), api.OK},
		{snap.Snap{Host: "a"}, api.OK},
	} {
		checked(t, c.s, c.want)
	}
}

func TestCheckOfNames(t *testing.T) {
	for _, name := range parts {
		checked(t, with(func(s *snap.Snap) { s.Host = name }), api.OK)
		checked(t, with(func(s *snap.Snap) { s.Tag = name }), api.OK)
	}
	for _, name := range noParts {
		checked(t, with(func(s *snap.Snap) { s.Host = name }), api.ErrPath)
		checked(t, with(func(s *snap.Snap) { s.Tag = name }), api.ErrPath)
	}
	// A tag may be missing, a host mustn't be.
	checked(t, with(func(s *snap.Snap) { s.Tag = "" }), api.OK)
	checked(t, with(func(s *snap.Snap) { s.Host = "" }), api.ErrPath)
	checked(t, snap.Snap{}, api.ErrPath)
}

func TestCheckLooksForNumbersFirst(t *testing.T) {
	for _, turn := range []func(*snap.Snap){
		func(s *snap.Snap) { s.Time = -1 },
		func(s *snap.Snap) { s.Files = 513 },
		func(s *snap.Snap) { s.Bytes = -1 },
	} {
		s := with(turn)
		s.Host = ""
		checked(t, s, api.ErrRange)
		s.Host, s.Tag = "a", "/"
		checked(t, s, api.ErrRange)
		s.Host = "/"
		checked(t, s, api.ErrRange)
	}
}

// checked tells what Check, and Encode, must answer.
func checked(t *testing.T, s snap.Snap, want api.Errno) {
	t.Helper()
	if e := snap.Check(s); e != want {
		t.Errorf("Check of %v: %d, not %d", s, e, want)
	}
	b, e := snap.Encode(s)
	if e != want || (len(b) == 0) != (want != api.OK) {
		t.Errorf("Encode of %v: %x %d, not %d", s, b, e, want)
	}
}

// ladder is snapshots, each ahead of the next one, that are unlike in each field in turn.
func ladder() []snap.Snap {
	top := api.ID(bytes.Repeat([]byte{0xff}, 32))
	return []snap.Snap{
		{Time: math.MinInt64, Host: "z", Tag: "z", Root: top, Files: 9, Bytes: 9},
		{Time: -1, Host: "z", Tag: "z", Root: top, Files: 9, Bytes: 9},
		{Time: 0},
		{Time: 0, Bytes: 1},
		{Time: 1, Host: "", Tag: "z", Root: top, Files: 9, Bytes: 9},
		{Time: 1, Host: "A", Tag: "z", Root: top, Files: 9, Bytes: 9},
		{Time: 1, Host: "a", Tag: "z", Root: top, Files: 9, Bytes: 9},
		{Time: 1, Host: "a-b", Tag: "", Root: top, Files: 9, Bytes: 9},
		{Time: 1, Host: "aa", Tag: "", Root: top, Files: 9, Bytes: 9},
		{Time: 1, Host: "aa", Tag: "b", Root: top, Files: 9, Bytes: 9},
		{Time: 1, Host: "aa", Tag: "ba", Root: api.ID{}, Files: 9, Bytes: 9},
		{Time: 1, Host: "aa", Tag: "ba", Root: api.ID{31: 1}, Files: 9, Bytes: 9},
		{Time: 1, Host: "aa", Tag: "ba", Root: api.ID{31: 0x80}, Files: 9, Bytes: 9},
		{Time: 1, Host: "aa", Tag: "ba", Root: api.ID{30: 1}, Files: 9, Bytes: 9},
		{Time: 1, Host: "aa", Tag: "ba", Root: api.ID{0: 1}, Files: 9, Bytes: 9},
		{Time: 1, Host: "aa", Tag: "ba", Root: top, Files: math.MinInt, Bytes: 9},
		{Time: 1, Host: "aa", Tag: "ba", Root: top, Files: -1, Bytes: 9},
		{Time: 1, Host: "aa", Tag: "ba", Root: top, Files: 2, Bytes: math.MinInt64},
		{Time: 1, Host: "aa", Tag: "ba", Root: top, Files: 2, Bytes: -1},
		{Time: 1, Host: "aa", Tag: "ba", Root: top, Files: 2, Bytes: 3},
		{Time: 1, Host: "aa", Tag: "ba", Root: top, Files: 2, Bytes: math.MaxInt64},
		{Time: 1, Host: "aa", Tag: "ba", Root: top, Files: 10, Bytes: 0},
		{Time: 1, Host: "b", Tag: "", Root: api.ID{}, Files: 0, Bytes: 0},
		{Time: 1, Host: "\xff"},
		{Time: math.MaxInt64, Host: ""},
	}
}

func TestLess(t *testing.T) {
	list := ladder()
	for i, a := range list {
		for j, b := range list {
			if got := snap.Less(a, b); got != (i < j) {
				t.Errorf("%v, %v: %v", a, b, got)
			}
		}
	}
}

func TestSort(t *testing.T) {
	want := ladder()
	r := rand.New(rand.NewSource(1))
	for range 300 {
		list := slices.Clone(want)
		r.Shuffle(len(list), func(i, j int) { list[i], list[j] = list[j], list[i] })
		given := slices.Clone(list)
		if got := snap.Sort(list); !slices.Equal(got, want) {
			t.Fatalf("%v", got)
		}
		if !slices.Equal(list, given) {
			t.Fatal("what was handed in was turned")
		}
	}
	for _, list := range [][]snap.Snap{nil, {}} {
		if got := snap.Sort(list); len(got) != 0 {
			t.Errorf("%v", got)
		}
	}
	if got := snap.Sort(want[3:4]); !slices.Equal(got, want[3:4]) {
		t.Errorf("%v", got)
	}
}

func TestSortHasTheSameOnes(t *testing.T) {
	rungs := ladder()
	r := rand.New(rand.NewSource(2))
	for range 300 {
		many := map[snap.Snap]int{}
		var list []snap.Snap
		for range r.Intn(100) {
			s := rungs[r.Intn(len(rungs))]
			many[s]++
			list = append(list, s)
		}
		got := snap.Sort(list)
		for i, s := range got {
			many[s]--
			if i > 0 && snap.Less(s, got[i-1]) {
				t.Fatalf("%v behind %v", s, got[i-1])
			}
		}
		for s, n := range many {
			if n != 0 {
				t.Fatalf("%v: %d are missing", s, n)
			}
		}
		if len(got) != len(list) {
			t.Fatalf("%d of %d", len(got), len(list))
		}
	}
}

func TestASortedListIsNewMemory(t *testing.T) {
	memory := ladder()
	given := slices.Clone(memory)
	got := snap.Sort(memory[:3])
	for i := range got {
		got[i] = right()
	}
	_ = append(got, right())
	if !slices.Equal(memory, given) {
		t.Error("a sorted list shares memory with the one that was handed in")
	}
	got = snap.Sort(memory[:3])
	clear(memory)
	if !slices.Equal(got, given[:3]) {
		t.Error("what was handed in was kept")
	}
}
