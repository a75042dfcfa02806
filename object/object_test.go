package object_test

import (
	"bytes"
	"math"
	"slices"
	"strconv"
	"strings"
	"testing"

	"coldstore/api"
	"coldstore/guard"
	"coldstore/object"
)

// made is a store of a quota.
func made(t *testing.T, quota int) *object.Store {
	t.Helper()
	s, e := object.New(quota)
	if e != api.OK || s == nil {
		t.Fatalf("a quota of %d: %v %d", quota, s, e)
	}
	return s
}

// put puts things that must be put.
func put(t *testing.T, s *object.Store, name, b string) {
	t.Helper()
	if e := s.Put(name, []byte(b)); e != api.OK {
		t.Errorf("%q: %d", name, e)
	}
}

// listed is all that a store tells by All.
func listed(s *object.Store) []string {
	list := []string{}
	for name, size := range s.All() {
		list = append(list, name+" "+strconv.Itoa(size))
	}
	return list
}

// has holds what a store tells without an operation against all that it should have.
func has(t *testing.T, s *object.Store, ops int, size int, all ...string) {
	t.Helper()
	if s.Ops() != ops || s.Size() != size || s.Len() != len(all) || !slices.Equal(listed(s), all) {
		t.Errorf("%d operations, %d bytes, %d things: %q", s.Ops(), s.Size(), s.Len(), listed(s))
	}
}

func TestNew(t *testing.T) {
	for _, quota := range []int{-1, -1000, math.MinInt} {
		if s, e := object.New(quota); s != nil || e != api.ErrArg {
			t.Errorf("a quota of %d: %v %d", quota, s, e)
		}
	}
	for _, quota := range []int{0, 1, 1 << 20, math.MaxInt} {
		s := made(t, quota)
		has(t, s, 0, 0)
		put(t, s, "a", "")
		if e := s.Put("b", []byte("x")); (e == api.OK) != (quota > 0) || quota == 0 && e != api.ErrQuota {
			t.Errorf("a quota of %d: %d", quota, e)
		}
	}
}

func TestEachStoreHasItsOwn(t *testing.T) {
	one, two := made(t, 9), made(t, 9)
	put(t, one, "a", "xy")
	has(t, one, 1, 2, "a 2")
	has(t, two, 0, 0)
	if _, e := two.Get("a"); e != api.ErrNone {
		t.Errorf("%d", e)
	}
}

func TestPutAndGet(t *testing.T) {
	s := made(t, 3)
	if e := s.Put("x", []byte("abcd")); e != api.ErrQuota {
		t.Errorf("abcd: %d", e)
	}
	has(t, s, 1, 0)
	put(t, s, "x", "abc")
	if b, e := s.Get("x"); e != api.OK || string(b) != "abc" {
		t.Errorf("%q %d", b, e)
	}
	has(t, s, 3, 3, "x 3")
	put(t, s, "x", "d")
	if b, e := s.Get("x"); e != api.OK || string(b) != "d" {
		t.Errorf("%q %d", b, e)
	}
	has(t, s, 5, 1, "x 1")
	put(t, s, "y", "ef")
	put(t, s, "x", "")
	if b, e := s.Get("x"); e != api.OK || len(b) != 0 {
		t.Errorf("%q %d", b, e)
	}
	has(t, s, 8, 2, "x 0", "y 2")
	for _, name := range []string{"z", "", "X", "xy", "x ", strings.Repeat("x", 81), "\x00"} {
		if b, e := s.Get(name); e != api.ErrNone || b != nil {
			t.Errorf("%q: %q %d", name, b, e)
		}
	}
}

func TestNames(t *testing.T) {
	for n := range 256 {
		c := string([]byte{byte(n)})
		for _, name := range []string{c, c + "a", "a" + c, "a" + c + "a"} {
			s := made(t, 1)
			want := api.ErrName
			if 33 <= n && n <= 126 {
				want = api.OK
			}
			if e := s.Put(name, []byte("b")); e != want || s.Len() != s.Size() || (s.Len() == 1) != (want == api.OK) {
				t.Errorf("%q: %d", name, e)
			}
		}
	}
	for n, want := range map[int]api.Errno{0: api.ErrName, 1: api.OK, 2: api.OK, 79: api.OK, 80: api.OK, 81: api.ErrName, 1000: api.ErrName} {
		s := made(t, 1)
		name := strings.Repeat("~", n)
		if e := s.Put(name, nil); e != want {
			t.Errorf("a name of %d bytes: %d", n, e)
		}
		if _, e := s.Get(name); (e == api.OK) != (want == api.OK) {
			t.Errorf("a name of %d bytes, asked for: %d", n, e)
		}
	}
}

func TestLongThings(t *testing.T) {
	s := made(t, 3*api.MaxObject)
	long := make([]byte, api.MaxObject+1)
	long[api.MaxObject-1] = 7
	if e := s.Put("a", long); e != api.ErrLong {
		t.Errorf("one byte too long: %d", e)
	}
	has(t, s, 1, 0)
	if e := s.Put("a", long[:api.MaxObject]); e != api.OK {
		t.Errorf("as long as may be: %d", e)
	}
	if e := s.Put("a", long); e != api.ErrLong {
		t.Errorf("one byte too long: %d", e)
	}
	has(t, s, 3, api.MaxObject, "a 1048576")
	if b, e := s.Get("a"); e != api.OK || !bytes.Equal(b, long[:api.MaxObject]) {
		t.Errorf("%d bytes, %d", len(b), e)
	}
}

func TestQuota(t *testing.T) {
	s := made(t, 10)
	put(t, s, "a", "1234")
	put(t, s, "b", "123456")
	has(t, s, 2, 10, "a 4", "b 6")
	if e := s.Put("c", []byte("1")); e != api.ErrQuota {
		t.Errorf("one byte more than all: %d", e)
	}
	if e := s.Put("a", []byte("12345")); e != api.ErrQuota {
		t.Errorf("one byte more than there was: %d", e)
	}
	has(t, s, 4, 10, "a 4", "b 6")
	if b, e := s.Get("a"); e != api.OK || string(b) != "1234" {
		t.Errorf("%q %d", b, e)
	}
	put(t, s, "c", "")
	put(t, s, "a", "4321")
	put(t, s, "b", "12")
	put(t, s, "c", "1234")
	has(t, s, 9, 10, "a 4", "b 2", "c 4")
	if e := s.Drop("a"); e != api.OK {
		t.Errorf("%d", e)
	}
	if e := s.Put("d", []byte("12345")); e != api.ErrQuota {
		t.Errorf("one byte more than was let go: %d", e)
	}
	put(t, s, "d", "1234")
	has(t, s, 12, 10, "b 2", "c 4", "d 4")
}

func TestAsManyThingsAsMayBe(t *testing.T) {
	s := made(t, 20)
	for i := range api.MaxObjects {
		put(t, s, "n"+strconv.Itoa(i), "")
	}
	if e := s.Put("more", nil); e != api.ErrMany {
		t.Errorf("one more: %d", e)
	}
	put(t, s, "n7", "seven")
	put(t, s, "n0", "")
	if s.Len() != 4096 || s.Size() != 5 || s.Ops() != 4099 {
		t.Errorf("%d things, %d bytes, %d operations", s.Len(), s.Size(), s.Ops())
	}
	if e := s.Drop("more"); e != api.ErrNone {
		t.Errorf("what wasn't put: %d", e)
	}
	if e := s.Drop("n4095"); e != api.OK {
		t.Errorf("%d", e)
	}
	put(t, s, "more", "x")
	if e := s.Put("n4095", nil); e != api.ErrMany || s.Len() != 4096 || s.Size() != 6 {
		t.Errorf("one more: %d, %d things, %d bytes", e, s.Len(), s.Size())
	}
}

func TestWhichErrorOfAPut(t *testing.T) {
	s := made(t, 4)
	for i := range api.MaxObjects {
		put(t, s, "n"+strconv.Itoa(i), "")
	}
	put(t, s, "n0", "1234")
	long := make([]byte, api.MaxObject+1)
	for _, c := range []struct {
		name string
		b    []byte
		e    api.Errno
	}{
		{"", long, api.ErrName},
		{"a b", long[:5], api.ErrName},
		{"\xff", nil, api.ErrName},
		{"more", long, api.ErrLong},
		{"n0", long, api.ErrLong},
		{"more", long[:5], api.ErrQuota},
		{"n0", long[:5], api.ErrQuota},
		{"n1", long[:1], api.ErrQuota},
		{"more", nil, api.ErrMany},
		{"n0", long[:4], api.OK},
		{"n1", nil, api.OK},
	} {
		s.Arm(nil, []bool{true})
		if e := s.Put(c.name, c.b); e != api.ErrFault {
			t.Errorf("%q, %d bytes, with a fault: %d", c.name, len(c.b), e)
		}
		if e := s.Put(c.name, c.b); e != c.e || s.Len() != 4096 || s.Size() != 4 {
			t.Errorf("%q, %d bytes: %d, %d things, %d bytes", c.name, len(c.b), e, s.Len(), s.Size())
		}
	}
}

func TestDrop(t *testing.T) {
	s := made(t, 9)
	put(t, s, "a", "12")
	put(t, s, "b", "")
	for _, name := range []string{"c", "", "a ", "A", strings.Repeat("a", 200)} {
		if e := s.Drop(name); e != api.ErrNone {
			t.Errorf("%q: %d", name, e)
		}
	}
	has(t, s, 7, 2, "a 2", "b 0")
	if e := s.Drop("a"); e != api.OK {
		t.Errorf("%d", e)
	}
	has(t, s, 8, 0, "b 0")
	if e := s.Drop("a"); e != api.ErrNone {
		t.Errorf("again: %d", e)
	}
	if b, e := s.Get("a"); e != api.ErrNone || b != nil {
		t.Errorf("asked for: %q %d", b, e)
	}
	has(t, s, 10, 0, "b 0")
	if e := s.Drop("b"); e != api.OK {
		t.Errorf("%d", e)
	}
	has(t, s, 11, 0)
	put(t, s, "a", "123456789")
	has(t, s, 12, 9, "a 9")
}

func TestList(t *testing.T) {
	s := made(t, 0)
	for _, name := range []string{"pack/b", "pack/a", "snap/1", "pack", "pack/", "pack/B", "~", "!", "pack0", "Pack/a", "a"} {
		put(t, s, name, "")
	}
	for prefix, want := range map[string][]string{
		"":         {"!", "Pack/a", "a", "pack", "pack/", "pack/B", "pack/a", "pack/b", "pack0", "snap/1", "~"},
		"pack/":    {"pack/", "pack/B", "pack/a", "pack/b"},
		"pack":     {"pack", "pack/", "pack/B", "pack/a", "pack/b", "pack0"},
		"pack/b":   {"pack/b"},
		"P":        {"Pack/a"},
		"pack/bc":  {},
		"x":        {},
		" ":        {},
		"\x00\xff": {},
	} {
		if got, e := s.List(prefix); e != api.OK || !slices.Equal(got, want) {
			t.Errorf("%q: %q %d", prefix, got, e)
		}
	}
	if got, e := s.List(strings.Repeat("x", 200)); e != api.OK || len(got) != 0 {
		t.Errorf("%q %d", got, e)
	}
	if got, e := made(t, 0).List(""); e != api.OK || len(got) != 0 {
		t.Errorf("%q %d", got, e)
	}
}

func TestFaults(t *testing.T) {
	s := made(t, 9)
	put(t, s, "a", "1")
	faults := []bool{true, false, true, true, false, true}
	s.Arm(nil, faults)
	clear(faults)
	has(t, s, 1, 1, "a 1")
	if e := s.Put("b", []byte("2")); e != api.ErrFault {
		t.Errorf("Put: %d", e)
	}
	has(t, s, 2, 1, "a 1")
	put(t, s, "b", "2")
	if b, e := s.Get("a"); e != api.ErrFault || b != nil {
		t.Errorf("Get: %q %d", b, e)
	}
	if e := s.Drop("a"); e != api.ErrFault {
		t.Errorf("Drop: %d", e)
	}
	has(t, s, 5, 2, "a 1", "b 1")
	if e := s.Drop("a"); e != api.OK {
		t.Errorf("Drop: %d", e)
	}
	if list, e := s.List(""); e != api.ErrFault || list != nil {
		t.Errorf("List: %q %d", list, e)
	}
	if list, e := s.List(""); e != api.OK || len(list) != 1 {
		t.Errorf("List: %q %d", list, e)
	}
	has(t, s, 8, 1, "b 1")
}

func TestFaultsAreTakenByWhatFailsToo(t *testing.T) {
	s := made(t, 1)
	s.Arm(nil, []bool{false, false, false, true, true})
	if e := s.Put("", nil); e != api.ErrName {
		t.Errorf("%d", e)
	}
	if _, e := s.Get("a"); e != api.ErrNone {
		t.Errorf("%d", e)
	}
	if e := s.Drop("a"); e != api.ErrNone {
		t.Errorf("%d", e)
	}
	if _, e := s.Get("a"); e != api.ErrFault {
		t.Errorf("%d", e)
	}
	s.Arm(nil, nil)
	if _, e := s.Get("a"); e != api.ErrNone {
		t.Errorf("behind Arm without faults: %d", e)
	}
	has(t, s, 5, 0)
}

func TestOtherCallsAreNoOperations(t *testing.T) {
	s := made(t, 9)
	put(t, s, "a", "1")
	s.Arm(guard.NewFuse(0), []bool{true})
	for range 3 {
		has(t, s, 1, 1, "a 1")
	}
	s.Arm(nil, []bool{true})
	for range 3 {
		has(t, s, 1, 1, "a 1")
	}
	if _, e := s.Get("a"); e != api.ErrFault {
		t.Errorf("the fault was taken: %d", e)
	}
}

// each is each call that is an operation.
func each(s *object.Store) map[string]func() api.Errno {
	return map[string]func() api.Errno{
		"Put":      func() api.Errno { return s.Put("b", []byte("2")) },
		"Put over": func() api.Errno { return s.Put("a", []byte("2")) },
		"Put none": func() api.Errno { return s.Put("", []byte("2")) },
		"Get":      func() api.Errno { _, e := s.Get("a"); return e },
		"Get none": func() api.Errno { _, e := s.Get("z"); return e },
		"Drop":     func() api.Errno { return s.Drop("a") },
		"List":     func() api.Errno { _, e := s.List(""); return e },
	}
}

func TestFuseBlows(t *testing.T) {
	for name := range each(nil) {
		s := made(t, 9)
		put(t, s, "a", "1")
		f := guard.NewFuse(0)
		s.Arm(f, []bool{true, false})
		behind := false
		for range 3 {
			if !f.Catch(func() {
				guard.Run(func() { each(s)[name]() })
				behind = true
			}) || behind {
				t.Errorf("%s doesn't blow the fuse", name)
			}
			has(t, s, 1, 1, "a 1")
		}
		// What blew the fuse took no fault.
		other := guard.NewFuse(1)
		s.Arm(other, []bool{true})
		if other.Catch(func() {
			if e := each(s)[name](); e != api.ErrFault {
				t.Errorf("%s, with a fault: %d", name, e)
			}
		}) || other.Left() != 0 {
			t.Errorf("%s: %d steps left", name, other.Left())
		}
		has(t, s, 2, 1, "a 1")
		s.Arm(nil, nil)
		each(s)[name]()
		if s.Ops() != 3 {
			t.Errorf("%s: %d operations", name, s.Ops())
		}
	}
}

func TestFaultsBehindABlownFuseAreThereYet(t *testing.T) {
	s := made(t, 9)
	f := guard.NewFuse(1)
	s.Arm(f, []bool{false, true})
	put(t, s, "a", "1")
	if !f.Catch(func() { s.Drop("a") }) {
		t.Error("the fuse isn't blown")
	}
	s.Arm(guard.NewFuse(-1), []bool{true})
	if e := s.Drop("a"); e != api.ErrFault {
		t.Errorf("%d", e)
	}
	has(t, s, 2, 1, "a 1")
	if e := s.Drop("a"); e != api.OK {
		t.Errorf("%d", e)
	}
	has(t, s, 3, 0)
}

func TestOneFuseOfTwoStores(t *testing.T) {
	one, two := made(t, 9), made(t, 9)
	f := guard.NewFuse(3)
	one.Arm(f, nil)
	two.Arm(f, nil)
	put(t, one, "a", "1")
	put(t, two, "b", "2")
	put(t, one, "c", "3")
	if f.Left() != 0 || !f.Catch(func() { two.Put("d", nil) }) || !f.Catch(func() { one.List("") }) {
		t.Errorf("%d steps left", f.Left())
	}
	has(t, one, 2, 2, "a 1", "c 1")
	has(t, two, 1, 1, "b 1")
}

func TestWhatIsHandedInAndOutIsTheCallersOwn(t *testing.T) {
	s := made(t, 99)
	memory := []byte("abcdef")
	if e := s.Put("a", memory[:3]); e != api.OK || string(memory) != "abcdef" {
		t.Errorf("%d %q", e, memory)
	}
	copy(memory, "xxxxxx")
	first, _ := s.Get("a")
	second, _ := s.Get("a")
	if string(first) != "abc" || string(second) != "abc" {
		t.Errorf("%q %q", first, second)
	}
	first[0] = 'X'
	_ = append(first, "YYYYYYYYYYYYYYYYYYYYYYYYYY"...)
	if again, _ := s.Get("a"); string(again) != "abc" || string(second) != "abc" {
		t.Errorf("%q %q", again, second)
	}
	put(t, s, "b", "")
	names, _ := s.List("")
	others, _ := s.List("")
	names[0] = "z"
	_ = append(names[:1], "y")
	if again, _ := s.List(""); !slices.Equal(others, []string{"a", "b"}) || !slices.Equal(again, others) {
		t.Errorf("%q %q", others, again)
	}
	has(t, s, 8, 3, "a 3", "b 0")
}

func TestAllAgainAndStopped(t *testing.T) {
	s := made(t, 99)
	put(t, s, "c", "123")
	put(t, s, "a", "1")
	put(t, s, "b", "")
	all := s.All()
	for stop := 1; stop <= 3; stop++ {
		var got []string
		for name, size := range all {
			got = append(got, name+strconv.Itoa(size))
			if len(got) == stop {
				break
			}
		}
		if !slices.Equal(got, []string{"a1", "b0", "c3"}[:stop]) {
			t.Errorf("stopped behind %d: %q", stop, got)
		}
	}
	// What is told hangs on the calls ahead of All alone.
	for name := range all {
		if e := s.Drop(name); e != api.OK {
			t.Errorf("%q: %d", name, e)
		}
		put(t, s, name+"x", "12")
	}
	got := ""
	for name, size := range all {
		got += name + strconv.Itoa(size)
	}
	if got != "a1b0c3" {
		t.Errorf("again: %q", got)
	}
	has(t, s, 9, 6, "ax 2", "bx 2", "cx 2")
}

func TestZeroStoreHasRoomForNoByte(t *testing.T) {
	var s object.Store
	if _, e := s.Get("a"); e != api.ErrNone || s.Drop("a") != api.ErrNone || s.Put("a", []byte("1")) != api.ErrQuota || s.Put("a", nil) != api.OK {
		t.Errorf("%d", e)
	}
	has(t, &s, 4, 0, "a 0")
}
