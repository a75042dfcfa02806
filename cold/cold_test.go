package cold_test

import (
	"bytes"
	"math"
	"slices"
	"strconv"
	"strings"
	"testing"

	"coldstore/api"
	"coldstore/cold"
	"coldstore/guard"
)

// What a thing is.
const (
	none    = -1
	frozen  = 0
	pending = 1
	thawed  = 2
)

// made is a store that must be made.
func made(t *testing.T, quota, jobs int, life, least int64) *cold.Store {
	t.Helper()
	s, e := cold.New(quota, jobs, life, least)
	if e != api.OK || s == nil {
		t.Fatalf("%v %d", s, e)
	}
	return s
}

// put puts things that must be put.
func put(t *testing.T, s *cold.Store, name, b string, now int64) {
	t.Helper()
	if e := s.Put(name, []byte(b), now); e != api.OK {
		t.Errorf("%q: %d", name, e)
	}
}

// request asks for things that must be asked for.
func request(t *testing.T, s *cold.Store, name string, now, wait int64) {
	t.Helper()
	if e := s.Request(name, now, wait); e != api.OK {
		t.Errorf("%q, at %d for %d: %d", name, now, wait, e)
	}
}

// got holds what Get tells against what it should tell.
func got(t *testing.T, s *cold.Store, name string, now int64, b string, want api.Errno) {
	t.Helper()
	if have, e := s.Get(name, now); string(have) != b || e != want || e != api.OK && have != nil {
		t.Errorf("%q, at %d: %q %d", name, now, have, e)
	}
}

// is holds what a thing is against what it should be, from one time to another one.
func is(t *testing.T, s *cold.Store, name string, from, to int64, want int) {
	t.Helper()
	for i := range to - from + 1 {
		if state := s.State(name, from+i); state != want {
			t.Errorf("%q, at %d: %d, not %d", name, from+i, state, want)
		}
	}
}

// lost holds what was lost against what should be.
func lost(t *testing.T, s *cold.Store, want int64) {
	t.Helper()
	if s.Lost() != want {
		t.Errorf("%d is lost, not %d", s.Lost(), want)
	}
}

// has holds what a store tells without an operation against all that it should have.
func has(t *testing.T, s *cold.Store, ops, size int, all ...string) {
	t.Helper()
	list := []string{}
	for name, n := range s.All() {
		list = append(list, name+" "+strconv.Itoa(n))
	}
	if s.Ops() != ops || s.Size() != size || s.Len() != len(all) || !slices.Equal(list, all) {
		t.Errorf("%d operations, %d bytes, %d things: %q", s.Ops(), s.Size(), s.Len(), list)
	}
}

func TestNew(t *testing.T) {
	for _, c := range []struct {
		quota, jobs int
		life, least int64
		e           api.Errno
	}{
		{0, 1, 1, 0, api.OK}, {9, 64, 1 << 50, 1 << 50, api.OK}, {math.MaxInt, 2, 3, 4, api.OK},
		{-1, 1, 1, 0, api.ErrArg}, {math.MinInt, 1, 1, 0, api.ErrArg},
		{0, 0, 1, 0, api.ErrArg}, {0, -1, 1, 0, api.ErrArg}, {0, 65, 1, 0, api.ErrArg}, {0, math.MaxInt, 1, 0, api.ErrArg}, {0, math.MinInt, 1, 0, api.ErrArg},
		{0, 1, 0, 0, api.ErrArg}, {0, 1, -1, 0, api.ErrArg}, {0, 1, 1<<50 + 1, 0, api.ErrArg}, {0, 1, math.MaxInt64, 0, api.ErrArg}, {0, 1, math.MinInt64, 0, api.ErrArg},
		{0, 1, 1, -1, api.ErrArg}, {0, 1, 1, 1<<50 + 1, api.ErrArg}, {0, 1, 1, math.MaxInt64, api.ErrArg}, {0, 1, 1, math.MinInt64, api.ErrArg},
	} {
		s, e := cold.New(c.quota, c.jobs, c.life, c.least)
		if e != c.e || (s == nil) != (e != api.OK) {
			t.Errorf("%+v: %v %d", c, s, e)
		}
		if s == nil {
			continue
		}
		has(t, s, 0, 0)
		lost(t, s, 0)
		if s.Pending(0) != 0 || s.State("a", 0) != none || s.Left("a", 0) != 0 {
			t.Errorf("%+v: not empty", c)
		}
	}
}

func TestEachStoreHasItsOwn(t *testing.T) {
	one, two := made(t, 9, 1, 5, 5), made(t, 9, 1, 5, 5)
	put(t, one, "a", "xy", 0)
	request(t, one, "a", 0, 3)
	has(t, one, 2, 2, "a 2")
	has(t, two, 0, 0)
	put(t, two, "a", "z", 0)
	is(t, one, "a", 0, 2, pending)
	is(t, two, "a", 0, 9, frozen)
	request(t, two, "a", 0, 3)
	if e := one.Drop("a", 0, true); e != api.OK || two.State("a", 0) != pending || two.Lost() != 0 {
		t.Errorf("%d %d %d", e, two.State("a", 0), two.Lost())
	}
}

func TestLife(t *testing.T) {
	s := made(t, 99, 1, 5, 0)
	put(t, s, "a", "abc", 0)
	is(t, s, "a", 0, 20, frozen)
	got(t, s, "a", 0, "", api.ErrThaw)
	request(t, s, "a", 0, 3)
	for now, want := range []int{1, 1, 1, 2, 2, 2, 2, 2, 0, 0, 0} {
		is(t, s, "a", int64(now), int64(now), want)
		if want == thawed {
			got(t, s, "a", int64(now), "abc", api.OK)
		} else {
			got(t, s, "a", int64(now), "", api.ErrThaw)
		}
	}
	// Asked for anew, when it froze again.
	request(t, s, "a", 8, 1)
	is(t, s, "a", 8, 8, pending)
	is(t, s, "a", 9, 13, thawed)
	is(t, s, "a", 14, 30, frozen)
	got(t, s, "a", 13, "abc", api.OK)
	got(t, s, "a", 14, "", api.ErrThaw)
	has(t, s, 17, 3, "a 3")
}

func TestLifeOfOne(t *testing.T) {
	s := made(t, 9, 1, 1, 0)
	put(t, s, "a", "1", 4)
	request(t, s, "a", 4, 0)
	is(t, s, "a", 4, 4, thawed)
	is(t, s, "a", 5, 9, frozen)
	if s.Pending(4) != 0 {
		t.Error("a job without a wait is pending")
	}
}

func TestWhatIsntAskedForStaysFrozen(t *testing.T) {
	s := made(t, 9, 3, 5, 0)
	put(t, s, "a", "1", 0)
	put(t, s, "b", "2", 0)
	request(t, s, "a", 0, 3)
	is(t, s, "b", 0, 20, frozen)
	got(t, s, "b", 4, "", api.ErrThaw)
	got(t, s, "a", 4, "1", api.OK)
}

func TestRequestOfWhatIsAskedForDoesNothing(t *testing.T) {
	s := made(t, 9, 1, 5, 0)
	put(t, s, "a", "1", 0)
	request(t, s, "a", 0, 3)
	// Neither what waits nor how many jobs there are is asked then.
	for _, wait := range []int64{0, 1, 100, -1, math.MinInt64, math.MaxInt64} {
		request(t, s, "a", 2, wait)
		request(t, s, "a", 3, wait)
		request(t, s, "a", 7, wait)
	}
	is(t, s, "a", 0, 2, pending)
	is(t, s, "a", 3, 7, thawed)
	is(t, s, "a", 8, 20, frozen)
	has(t, s, 20, 1, "a 1")
}

func TestErrorsOfRequest(t *testing.T) {
	s := made(t, 9, 1, 5, 0)
	for i, name := range []string{"a", "", "no name", "\x00", strings.Repeat("n", 81)} {
		if e := s.Request(name, 0, -1); e != api.ErrNone || s.State(name, 0) != none || s.Ops() != i+1 {
			t.Errorf("%q: %d, %d operations", name, e, s.Ops())
		}
	}
	put(t, s, "a", "1", 0)
	put(t, s, "b", "2", 0)
	for _, wait := range []int64{-1, math.MinInt64} {
		if e := s.Request("a", 0, wait); e != api.ErrArg || s.State("a", 0) != frozen {
			t.Errorf("a wait of %d: %d", wait, e)
		}
	}
	request(t, s, "a", 0, 3)
	if e := s.Request("b", 2, 3); e != api.ErrJobs || s.State("b", 2) != frozen {
		t.Errorf("more jobs than may be: %d", e)
	}
	if e := s.Request("b", 2, 0); e != api.ErrJobs || s.State("b", 2) != frozen {
		t.Errorf("more jobs than may be, without a wait: %d", e)
	}
	if e := s.Request("b", 2, -1); e != api.ErrArg {
		t.Errorf("both: %d", e)
	}
	if e := s.Request("c", 2, 3); e != api.ErrNone {
		t.Errorf("of none: %d", e)
	}
	request(t, s, "b", 3, 3)
	is(t, s, "b", 3, 5, pending)
	has(t, s, 15, 2, "a 1", "b 1")
}

func TestAsManyJobsAsMayBe(t *testing.T) {
	for _, jobs := range []int{1, 2, 7, 64} {
		s := made(t, 0, jobs, 5, 0)
		for i := range jobs + 2 {
			put(t, s, strconv.Itoa(i), "", 0)
		}
		for i := range jobs {
			if s.Pending(0) != i {
				t.Errorf("of %d jobs: %d, not %d", jobs, s.Pending(0), i)
			}
			request(t, s, strconv.Itoa(i), 0, int64(10+i))
		}
		last := strconv.Itoa(jobs)
		for _, now := range []int64{0, 9} {
			if e := s.Request(last, now, 3); e != api.ErrJobs || s.Pending(now) != jobs || s.State(last, now) != frozen {
				t.Errorf("more than %d jobs: %d", jobs, e)
			}
		}
		request(t, s, last, 10, 100)
		if s.Pending(10) != jobs || s.Request(strconv.Itoa(jobs+1), 10, 1) != api.ErrJobs {
			t.Errorf("behind the first one of %d jobs: %d", jobs, s.Pending(10))
		}
		if s.Pending(int64(9+jobs)) != 1 || s.Pending(109) != 1 || s.Pending(110) != 0 {
			t.Errorf("behind %d jobs: %d", jobs, s.Pending(int64(9+jobs)))
		}
	}
}

func TestWhatEndsAJobMakesRoomForOne(t *testing.T) {
	for name, end := range map[string]func(s *cold.Store){
		"Fail":     func(s *cold.Store) { s.Fail("a", 1) },
		"Drop":     func(s *cold.Store) { s.Drop("a", 1, false) },
		"force":    func(s *cold.Store) { s.Drop("a", 1, true) },
		"Put over": func(s *cold.Store) { s.Put("a", nil, 1) },
	} {
		s := made(t, 9, 1, 5, 0)
		put(t, s, "a", "1", 0)
		put(t, s, "b", "2", 0)
		request(t, s, "a", 0, 9)
		if e := s.Request("b", 1, 2); e != api.ErrJobs {
			t.Errorf("%s: %d ahead of it", name, e)
		}
		end(s)
		if s.Pending(1) != 0 {
			t.Errorf("%s: %d are pending", name, s.Pending(1))
		}
		request(t, s, "b", 1, 2)
		is(t, s, "b", 1, 2, pending)
		is(t, s, "b", 3, 7, thawed)
	}
}

func TestFail(t *testing.T) {
	s := made(t, 9, 2, 5, 0)
	put(t, s, "a", "1", 0)
	put(t, s, "b", "2", 0)
	for _, name := range []string{"a", "b", "c", "", strings.Repeat("n", 81)} {
		if s.Fail(name, 0) {
			t.Errorf("%q failed without a job", name)
		}
	}
	is(t, s, "c", 0, 0, none)
	request(t, s, "a", 0, 3)
	request(t, s, "b", 0, 3)
	if !s.Fail("a", 2) || s.Fail("a", 2) {
		t.Error("a pending job fails once")
	}
	is(t, s, "a", 0, 20, frozen)
	got(t, s, "a", 4, "", api.ErrThaw)
	for _, now := range []int64{3, 7, 8, 100} {
		if s.Fail("b", now) {
			t.Errorf("what isn't pending failed, at %d", now)
		}
	}
	is(t, s, "b", 0, 2, pending)
	is(t, s, "b", 3, 7, thawed)
	request(t, s, "a", 2, 3)
	is(t, s, "a", 2, 4, pending)
	is(t, s, "a", 5, 9, thawed)
	has(t, s, 6, 2, "a 1", "b 1")
}

func TestErrorsOfGet(t *testing.T) {
	s := made(t, 9, 2, 5, 0)
	for _, name := range []string{"a", "", "a b", strings.Repeat("n", 81)} {
		got(t, s, name, 0, "", api.ErrNone)
	}
	put(t, s, "a", "", 0)
	got(t, s, "a", 0, "", api.ErrThaw)
	request(t, s, "a", 0, 1)
	got(t, s, "a", 0, "", api.ErrThaw)
	got(t, s, "a", 1, "", api.OK)
	if e := s.Drop("a", 1, false); e != api.OK {
		t.Errorf("%d", e)
	}
	got(t, s, "a", 1, "", api.ErrNone)
	has(t, s, 11, 0)
}

func TestYoungThings(t *testing.T) {
	s := made(t, 9, 2, 5, 4)
	put(t, s, "a", "1", 10)
	for now, want := range map[int64]int64{10: 4, 11: 3, 13: 1, 14: 0, 15: 0, 1000: 0} {
		if left := s.Left("a", now); left != want {
			t.Errorf("at %d: %d are left", now, left)
		}
	}
	for now := int64(10); now < 14; now++ {
		if e := s.Drop("a", now, false); e != api.ErrYoung {
			t.Errorf("at %d: %d", now, e)
		}
	}
	has(t, s, 5, 1, "a 1")
	lost(t, s, 0)
	if e := s.Drop("a", 14, false); e != api.OK {
		t.Errorf("%d", e)
	}
	has(t, s, 6, 0)
	lost(t, s, 0)
	is(t, s, "a", 0, 20, none)
	if s.Left("a", 10) != 0 {
		t.Error("what was let go is young")
	}
	for _, force := range []bool{false, true} {
		for _, name := range []string{"a", "b", "", "a b"} {
			if e := s.Drop(name, 11, force); e != api.ErrNone {
				t.Errorf("%q, %v: %d", name, force, e)
			}
		}
	}
	lost(t, s, 0)
}

func TestForce(t *testing.T) {
	s := made(t, 9, 2, 5, 4)
	want := int64(0)
	for now := int64(0); now <= 6; now++ {
		put(t, s, "a", "1", 0)
		if e := s.Drop("a", now, true); e != api.OK || s.Len() != 0 {
			t.Errorf("at %d: %d", now, e)
		}
		want += max(4-now, 0)
		lost(t, s, want)
	}
	put(t, s, "a", "1", 0)
	put(t, s, "b", "1", 1)
	s.Drop("a", 2, true)
	lost(t, s, want+2)
	s.Drop("a", 2, true)
	lost(t, s, want+2)
	if s.Left("b", 2) != 3 {
		t.Errorf("another one: %d are left", s.Left("b", 2))
	}
}

func TestNothingIsYoungWithoutALeastTime(t *testing.T) {
	s := made(t, 9, 2, 5, 0)
	put(t, s, "a", "1", 3)
	if s.Left("a", 3) != 0 || s.Drop("a", 3, false) != api.OK {
		t.Error("young without a least time")
	}
	put(t, s, "a", "1", 3)
	put(t, s, "a", "2", 3)
	s.Drop("a", 3, true)
	lost(t, s, 0)
}

func TestWhatIsRefusedAsYoungStaysAsItIs(t *testing.T) {
	s := made(t, 9, 1, 5, 100)
	put(t, s, "a", "1", 0)
	request(t, s, "a", 0, 3)
	if e := s.Drop("a", 1, false); e != api.ErrYoung {
		t.Errorf("%d", e)
	}
	is(t, s, "a", 0, 2, pending)
	is(t, s, "a", 3, 7, thawed)
	got(t, s, "a", 3, "1", api.OK)
	if s.Left("a", 3) != 97 {
		t.Errorf("%d are left", s.Left("a", 3))
	}
}

func TestPutOver(t *testing.T) {
	s := made(t, 9, 2, 5, 10)
	put(t, s, "a", "1", 0)
	request(t, s, "a", 0, 3)
	put(t, s, "a", "22", 4)
	lost(t, s, 6)
	is(t, s, "a", 0, 20, frozen)
	got(t, s, "a", 4, "", api.ErrThaw)
	if s.Left("a", 4) != 10 || s.Left("a", 13) != 1 || s.Left("a", 14) != 0 {
		t.Errorf("%d are left", s.Left("a", 4))
	}
	request(t, s, "a", 4, 9)
	put(t, s, "a", "333", 5)
	lost(t, s, 15)
	if s.Pending(5) != 0 {
		t.Error("the job of what had the name is there yet")
	}
	is(t, s, "a", 0, 30, frozen)
	put(t, s, "a", "4", 15)
	lost(t, s, 15)
	put(t, s, "b", "5", 15)
	lost(t, s, 15)
	has(t, s, 8, 2, "a 1", "b 1")
	request(t, s, "a", 16, 0)
	got(t, s, "a", 16, "4", api.OK)
}

func TestWhatCantBePutTurnsNothing(t *testing.T) {
	s := made(t, 3, 2, 5, 10)
	put(t, s, "a", "12", 0)
	request(t, s, "a", 0, 3)
	s.Arm(nil, []bool{true})
	for i, c := range []struct {
		name string
		b    []byte
		e    api.Errno
	}{
		{"a", nil, api.ErrFault}, {"a", []byte("1234"), api.ErrQuota}, {"b", []byte("12"), api.ErrQuota}, {"", nil, api.ErrName}, {"b b", nil, api.ErrName},
		{strings.Repeat("n", 81), nil, api.ErrName}, {"\x7f", nil, api.ErrName}, {"a", make([]byte, api.MaxObject+1), api.ErrLong}, {"\x00", make([]byte, api.MaxObject+1), api.ErrName},
	} {
		if e := s.Put(c.name, c.b, 2); e != c.e {
			t.Errorf("%q: %d", c.name, e)
		}
		has(t, s, 3+i, 2, "a 2")
		lost(t, s, 0)
		is(t, s, "a", 0, 2, pending)
		is(t, s, "a", 3, 7, thawed)
		is(t, s, "b", 0, 0, none)
		if s.Left("a", 2) != 8 {
			t.Errorf("%d are left", s.Left("a", 2))
		}
	}
	got(t, s, "a", 3, "12", api.OK)
}

func TestAsManyThingsAsMayBe(t *testing.T) {
	s := made(t, 9, 64, 5, 10)
	for i := range api.MaxObjects {
		put(t, s, "n"+strconv.Itoa(i), "", 0)
	}
	if e := s.Put("more", nil, 0); e != api.ErrMany || s.State("more", 0) != none {
		t.Errorf("one more: %d", e)
	}
	put(t, s, "n7", "1", 1)
	lost(t, s, 9)
	if s.Drop("n8", 1, true) != api.OK || s.Put("more", nil, 1) != api.OK || s.Len() != api.MaxObjects {
		t.Errorf("%d things", s.Len())
	}
}

func TestTimesBeyondTheirBounds(t *testing.T) {
	for _, early := range []int64{-1, -1000, math.MinInt64} {
		s := made(t, 9, 1, 5, 4)
		put(t, s, "a", "1", early)
		if s.Left("a", early) != 4 || s.Left("a", 0) != 4 || s.Left("a", 3) != 1 {
			t.Errorf("put at %d: %d are left", early, s.Left("a", 0))
		}
		request(t, s, "a", early, 3)
		is(t, s, "a", early, early, pending)
		is(t, s, "a", 0, 2, pending)
		is(t, s, "a", 3, 7, thawed)
		if s.Pending(early) != 1 || s.Drop("a", early, false) != api.ErrYoung || s.Drop("a", early, true) != api.OK || s.Lost() != 4 {
			t.Errorf("at %d: %d is lost", early, s.Lost())
		}
		put(t, s, "a", "1", 0)
		request(t, s, "a", early, 0)
		got(t, s, "a", early, "1", api.OK)
		got(t, s, "a", 4, "1", api.OK)
		got(t, s, "a", 5, "", api.ErrThaw)
	}
	const last = api.MaxTime
	for _, late := range []int64{last + 1, 2 * last, math.MaxInt64} {
		s := made(t, 9, 2, 5, 4)
		put(t, s, "a", "1", late)
		if s.Left("a", late) != 0 || s.Left("a", last) != 0 || s.Left("a", last-3) != 3 {
			t.Errorf("put at %d: %d, %d are left", late, s.Left("a", late), s.Left("a", last-3))
		}
		put(t, s, "b", "1", last-6)
		request(t, s, "b", last-6, 2)
		is(t, s, "b", last-4, last-1, thawed)
		is(t, s, "b", last, last, frozen)
		is(t, s, "b", late, late, frozen)
		got(t, s, "b", last-1, "1", api.OK)
		got(t, s, "b", late, "", api.ErrThaw)
		// A job that would be done later is done at the last time, when its life would be over later, and is over.
		request(t, s, "a", last-2, late)
		is(t, s, "a", last-2, last-1, pending)
		is(t, s, "a", last, last, frozen)
		is(t, s, "a", late, late, frozen)
		if s.Pending(last-1) != 1 || s.Pending(late) != 0 {
			t.Errorf("%d, %d are pending", s.Pending(last-1), s.Pending(late))
		}
		request(t, s, "b", late, 0)
		is(t, s, "b", late, late, frozen)
		if s.Drop("a", late, false) != api.OK || s.Drop("b", late, false) != api.OK || s.Lost() != 0 {
			t.Errorf("at %d: young", late)
		}
	}
}

func TestLongWaitsAndLives(t *testing.T) {
	const last = api.MaxTime
	s := made(t, 9, 3, last, last)
	put(t, s, "a", "1", 1)
	put(t, s, "b", "1", 0)
	put(t, s, "c", "1", 0)
	request(t, s, "a", 1, 2)
	request(t, s, "b", 0, math.MaxInt64)
	request(t, s, "c", 5, last-7)
	is(t, s, "a", last-1, last-1, thawed)
	is(t, s, "a", last, last, frozen)
	is(t, s, "b", last-1, last-1, pending)
	is(t, s, "c", last-3, last-3, pending)
	is(t, s, "c", last-2, last-1, thawed)
	if s.Left("a", 1) != last-1 || s.Left("b", 0) != last || s.Left("a", last) != 0 || s.Left("b", last-1) != 1 {
		t.Errorf("%d, %d are left", s.Left("a", 1), s.Left("b", 0))
	}
	s.Drop("a", 1, true)
	s.Drop("b", 0, true)
	lost(t, s, 2*last-1)
}

func TestLostDoesntWrapRound(t *testing.T) {
	s := made(t, 0, 1, 1, api.MaxTime)
	put(t, s, "a", "", 0)
	for i := range int64(8191) {
		put(t, s, "a", "", 0)
		if s.Lost() != (i+1)*api.MaxTime {
			t.Fatalf("%d is lost behind %d", s.Lost(), i+1)
		}
	}
	for range 3 {
		put(t, s, "a", "", 0)
		lost(t, s, math.MaxInt64)
	}
}

func TestTimesThatGoBack(t *testing.T) {
	s := made(t, 9, 2, 5, 4)
	put(t, s, "a", "1", 10)
	request(t, s, "a", 10, 3)
	got(t, s, "a", 14, "1", api.OK)
	is(t, s, "a", 0, 12, pending)
	got(t, s, "a", 12, "", api.ErrThaw)
	if s.Pending(20) != 0 || s.Pending(12) != 1 {
		t.Errorf("%d are pending", s.Pending(12))
	}
	is(t, s, "a", 18, 30, frozen)
	is(t, s, "a", 13, 17, thawed)
	request(t, s, "a", 18, 1)
	is(t, s, "a", 0, 18, pending)
	is(t, s, "a", 19, 23, thawed)
	if s.Left("a", 13) != 1 || s.Left("a", 15) != 0 || s.Left("a", 12) != 2 {
		t.Errorf("%d are left", s.Left("a", 13))
	}
}

func TestList(t *testing.T) {
	s := made(t, 99, 1, 5, 0)
	for _, name := range []string{"pack/b", "snap/1", "pack/a", "pack", "~"} {
		put(t, s, name, "x", 0)
	}
	for prefix, want := range map[string][]string{"": {"pack", "pack/a", "pack/b", "snap/1", "~"}, "pack/": {"pack/a", "pack/b"}, "pack/b": {"pack/b"}, "x": {}, "\x00": {}} {
		if list, e := s.List(prefix); e != api.OK || !slices.Equal(list, want) {
			t.Errorf("%q: %q %d", prefix, list, e)
		}
	}
	has(t, s, 10, 5, "pack 1", "pack/a 1", "pack/b 1", "snap/1 1", "~ 1")
	for name := range s.All() {
		if name != "pack" {
			t.Errorf("%q is the first one", name)
		}
		break
	}
}

func TestQuota(t *testing.T) {
	s := made(t, 4, 1, 5, 3)
	put(t, s, "a", "123", 0)
	if e := s.Put("b", []byte("12"), 0); e != api.ErrQuota {
		t.Errorf("%d", e)
	}
	put(t, s, "b", "1", 0)
	put(t, s, "a", "321", 1)
	has(t, s, 4, 4, "a 3", "b 1")
	if s.Drop("b", 1, false) != api.ErrYoung || s.Drop("b", 1, true) != api.OK {
		t.Error("Drop")
	}
	put(t, s, "a", "4321", 1)
	has(t, s, 7, 4, "a 4")
	lost(t, s, 7)
}

// each is each call that is an operation, of a store that each of them could turn.
func each(s *cold.Store) map[string]func() api.Errno {
	return map[string]func() api.Errno{
		"Put":          func() api.Errno { return s.Put("n", []byte("2"), 2) },
		"Put over":     func() api.Errno { return s.Put("frozen", []byte("2"), 2) },
		"Put none":     func() api.Errno { return s.Put("", []byte("2"), 2) },
		"Get":          func() api.Errno { _, e := s.Get("thawed", 2); return e },
		"Get frozen":   func() api.Errno { _, e := s.Get("frozen", 2); return e },
		"Get none":     func() api.Errno { _, e := s.Get("n", 2); return e },
		"Drop":         func() api.Errno { return s.Drop("old", 2, false) },
		"Drop young":   func() api.Errno { return s.Drop("thawed", 2, false) },
		"Drop force":   func() api.Errno { return s.Drop("thawed", 2, true) },
		"Drop none":    func() api.Errno { return s.Drop("n", 2, true) },
		"List":         func() api.Errno { _, e := s.List(""); return e },
		"Request":      func() api.Errno { return s.Request("frozen", 2, 3) },
		"Request over": func() api.Errno { return s.Request("thawed", 2, 3) },
		"Request bad":  func() api.Errno { return s.Request("frozen", 2, -1) },
		"Request none": func() api.Errno { return s.Request("n", 2, 3) },
	}
}

// stocked is a store for each, behind five operations.
func stocked(t *testing.T) *cold.Store {
	t.Helper()
	s := made(t, 9, 1, 5, 2)
	put(t, s, "old", "1", 0)
	put(t, s, "frozen", "1", 1)
	put(t, s, "thawed", "1", 1)
	request(t, s, "thawed", 1, 1)
	if list, e := s.List("old"); e != api.OK || len(list) != 1 {
		t.Errorf("%q %d", list, e)
	}
	return s
}

// untouched holds a stocked store against what it was, behind more operations.
func untouched(t *testing.T, s *cold.Store, more int) {
	t.Helper()
	has(t, s, 5+more, 3, "frozen 1", "old 1", "thawed 1")
	lost(t, s, 0)
	is(t, s, "frozen", 0, 30, frozen)
	is(t, s, "old", 0, 30, frozen)
	is(t, s, "thawed", 1, 1, pending)
	is(t, s, "thawed", 2, 6, thawed)
	is(t, s, "n", 0, 9, none)
	if s.Left("thawed", 2) != 1 || s.Left("frozen", 2) != 1 || s.Left("old", 2) != 0 || s.Pending(2) != 0 {
		t.Errorf("%d, %d, %d are left", s.Left("thawed", 2), s.Left("frozen", 2), s.Left("old", 2))
	}
}

func TestFaults(t *testing.T) {
	for name := range each(nil) {
		s := stocked(t)
		faults := []bool{true, true, false, true}
		s.Arm(nil, faults)
		clear(faults)
		untouched(t, s, 0)
		for i := range 2 {
			if e := each(s)[name](); e != api.ErrFault {
				t.Errorf("%s: %d", name, e)
			}
			untouched(t, s, 1+i)
		}
		if e := each(s)[name](); e == api.ErrFault || s.Ops() != 8 {
			t.Errorf("%s: %d, %d operations", name, e, s.Ops())
		}
		if e := each(s)[name](); e != api.ErrFault || s.Ops() != 9 {
			t.Errorf("%s: %d, %d operations", name, e, s.Ops())
		}
		if e := each(s)[name](); e == api.ErrFault || s.Ops() != 10 {
			t.Errorf("%s, without faults: %d, %d operations", name, e, s.Ops())
		}
	}
}

func TestFuseBlows(t *testing.T) {
	for name := range each(nil) {
		s := stocked(t)
		f := guard.NewFuse(0)
		s.Arm(f, []bool{true})
		behind := false
		for range 3 {
			if !f.Catch(func() {
				guard.Run(func() { each(s)[name]() })
				behind = true
			}) || behind {
				t.Errorf("%s doesn't blow the fuse", name)
			}
			untouched(t, s, 0)
		}
		// Each call is one step, and takes one fault.
		one := guard.NewFuse(1)
		s.Arm(one, []bool{false, true})
		want := each(stocked(t))[name]()
		if one.Catch(func() {
			if e := each(s)[name](); e != want {
				t.Errorf("%s: %d, not %d", name, e, want)
			}
		}) || one.Left() != 0 || s.Ops() != 6 {
			t.Errorf("%s: %d steps left, %d operations", name, one.Left(), s.Ops())
		}
	}
}

func TestOtherCallsAreNoOperations(t *testing.T) {
	s := stocked(t)
	request(t, s, "frozen", 2, 3)
	s.Arm(guard.NewFuse(0), []bool{true})
	if s.State("frozen", 2) != pending || s.Pending(2) != 1 || s.Left("frozen", 2) != 1 || s.Lost() != 0 || s.Len() != 3 || s.Size() != 3 || s.Ops() != 6 {
		t.Error("what is told")
	}
	if !s.Fail("frozen", 2) || s.Fail("frozen", 2) || s.Ops() != 6 {
		t.Error("Fail")
	}
	untouched(t, s, 1)
	s.Arm(nil, []bool{true})
	if e := s.Request("frozen", 2, 3); e != api.ErrFault {
		t.Errorf("the fault was taken: %d", e)
	}
}

func TestWhatIsHandedInAndOutIsTheCallersOwn(t *testing.T) {
	s := made(t, 99, 1, 50, 0)
	memory := []byte("abcdef")
	if e := s.Put("a", memory[:3], 0); e != api.OK || string(memory) != "abcdef" {
		t.Errorf("%d %q", e, memory)
	}
	copy(memory, "xxxxxx")
	request(t, s, "a", 0, 0)
	first, _ := s.Get("a", 0)
	second, _ := s.Get("a", 0)
	if string(first) != "abc" || string(second) != "abc" {
		t.Errorf("%q %q", first, second)
	}
	first[0] = 'X'
	_ = append(first, bytes.Repeat([]byte("Y"), 50)...)
	if again, _ := s.Get("a", 0); string(again) != "abc" || string(second) != "abc" {
		t.Errorf("%q %q", again, second)
	}
}

func TestZeroStoreHasRoomForNoByteAndNoJob(t *testing.T) {
	var s cold.Store
	got(t, &s, "a", 0, "", api.ErrNone)
	if s.Drop("a", 0, false) != api.ErrNone || s.Request("a", 0, 0) != api.ErrNone || s.Fail("a", 0) || s.State("a", 0) != none || s.Left("a", 0) != 0 {
		t.Error("of no things")
	}
	if s.Put("a", []byte("1"), 0) != api.ErrQuota || s.Put("a", nil, 0) != api.OK || s.Request("a", 0, 0) != api.ErrJobs {
		t.Error("of one thing")
	}
	has(t, &s, 6, 0, "a 0")
}
