package lock_test

import (
	"encoding/binary"
	"hash/crc32"
	"math"
	"math/rand"
	"slices"
	"strings"
	"testing"

	"coldstore/api"
	"coldstore/guard"
	"coldstore/lock"
	"coldstore/object"
)

// sealed is bytes, sealed as layer 4 says.
func sealed(kind byte, body []byte) []byte {
	b := append([]byte{kind}, body...)
	return binary.LittleEndian.AppendUint32(b, crc32.Checksum(b, crc32.MakeTable(crc32.Castagnoli)))
}

// held is a lock's bytes.
func held(since uint64, mark byte) []byte {
	return sealed(76, append(binary.LittleEndian.AppendUint64(nil, since), mark))
}

// noLocks is bytes that are no lock's.
func noLocks() [][]byte {
	whole := held(50, 0)
	broken := held(50, 1)
	broken[3] ^= 4
	return [][]byte{
		nil, {}, {76}, whole[:len(whole)-1], whole[1:], append(held(50, 0), 0), broken,
		held(50, 2), held(50, 255), held(1<<50+1, 0), held(1<<63, 0), held(math.MaxUint64, 1), held(1<<63+50, 1),
		sealed(73, append(binary.LittleEndian.AppendUint64(nil, 50), 0)),
		sealed(76, nil), sealed(76, binary.LittleEndian.AppendUint64(nil, 50)),
		sealed(76, append(binary.LittleEndian.AppendUint64(nil, 50), 0, 0)),
	}
}

// store is a store with room enough.
func store(t *testing.T) *object.Store {
	t.Helper()
	s, e := object.New(1 << 20)
	if e != api.OK {
		t.Fatal(e)
	}
	return s
}

// put puts a thing.
func put(t *testing.T, s *object.Store, name string, b []byte) {
	t.Helper()
	if e := s.Put(name, b); e != api.OK {
		t.Fatalf("%s: %d", name, e)
	}
}

// names is all names of a store.
func names(s *object.Store) []string {
	var list []string
	for name := range s.All() {
		list = append(list, name)
	}
	return list
}

// lockNames is the names of locks.
func lockNames(who ...uint64) []string {
	var list []string
	for _, w := range who {
		list = append(list, lock.Name(w))
	}
	return list
}

func TestName(t *testing.T) {
	for _, c := range []struct {
		who  uint64
		name string
	}{
		{255, "lock/00000000000000ff"},
		{0, "lock/0000000000000000"},
		{1, "lock/0000000000000001"},
		{0x123456789abcdef0, "lock/123456789abcdef0"},
		{math.MaxUint64, "lock/ffffffffffffffff"},
		{1 << 63, "lock/8000000000000000"},
	} {
		if name := lock.Name(c.who); name != c.name {
			t.Errorf("%d: %s", c.who, name)
		}
		if who, is := lock.Parse(c.name); who != c.who || !is {
			t.Errorf("%s: %d %v", c.name, who, is)
		}
	}
	r := rand.New(rand.NewSource(1))
	for range 1000 {
		who := r.Uint64() >> r.Intn(64)
		if back, is := lock.Parse(lock.Name(who)); back != who || !is {
			t.Errorf("%d: %d %v", who, back, is)
		}
	}
}

func TestParseOfNoName(t *testing.T) {
	good := "00000000000000ff"
	for _, name := range []string{
		"", "lock", "lock/", "lock/ff", good, "/" + good, "Lock/" + good, "lock//" + good[1:], "lock/lock/" + good, "pack/" + good,
		"lock/" + good + "0", "lock/0" + good, "lock/" + good[1:], "lock/" + strings.ToUpper(good), "lock/00000000000000fF", "lock/00000000000000fg",
		"lock/+0000000000000ff", "lock/-0000000000000ff", "lock/0x000000000000ff", "lock/0000000000000_ff", "lock/ 000000000000ff", "lock/00000000000000f\x00",
		"lock/" + good + "\n", "lock/000000000000000é", strings.Repeat("lock/"+good, 1000), "lock/" + strings.Repeat("f", 100000),
	} {
		if who, is := lock.Parse(name); who != 0 || is {
			t.Errorf("%q: %d", name, who)
		}
	}
}

func TestTakePutsALock(t *testing.T) {
	for _, c := range []struct {
		alone bool
		now   int64
		mark  byte
	}{{false, 0, 0}, {true, 0, 1}, {false, 7, 0}, {true, 1 << 50, 1}, {false, 1 << 50, 0}} {
		s := store(t)
		if e := lock.Take(s, 255, c.alone, c.now, 1); e != api.OK || s.Ops() != 2 {
			t.Errorf("%v: %d, %d operations", c, e, s.Ops())
		}
		if b, e := s.Get("lock/00000000000000ff"); e != api.OK || !slices.Equal(b, held(uint64(c.now), c.mark)) || s.Len() != 1 {
			t.Errorf("%v: %x %d", c, b, e)
		}
	}
}

func TestNumbersBeyondTheirBounds(t *testing.T) {
	for _, c := range []struct {
		now, stale int64
		e          api.Errno
	}{
		{-1, 1, api.ErrRange}, {math.MinInt64, 1, api.ErrRange}, {1<<50 + 1, 1, api.ErrRange}, {math.MaxInt64, 1, api.ErrRange},
		{0, 0, api.ErrRange}, {0, -1, api.ErrRange}, {0, math.MinInt64, api.ErrRange}, {-1, 0, api.ErrRange},
		{0, 1, api.OK}, {1 << 50, 1, api.OK}, {0, math.MaxInt64, api.OK}, {1 << 50, math.MaxInt64, api.OK},
	} {
		s := store(t)
		put(t, s, lock.Name(1), nil)
		s.Arm(guard.NewFuse(100), []bool{false, false, false, false, true})
		e := lock.Take(s, 2, false, c.now, c.stale)
		if e != c.e || e != api.OK && (s.Ops() != 1 || s.Len() != 1) {
			t.Errorf("%v: Take: %d, %d operations", c, e, s.Ops())
		}
		s = store(t)
		put(t, s, lock.Name(1), held(0, 0))
		list, e := lock.Holders(s, c.now, c.stale)
		if e != c.e || e != api.OK && (s.Ops() != 1 || len(list) != 0) {
			t.Errorf("%v: Holders: %v %d, %d operations", c, list, e, s.Ops())
		}
	}
}

func TestTakeAmongOthers(t *testing.T) {
	type others map[uint64][]byte
	free, alone, old, broken := held(50, 0), held(50, 1), held(40, 1), []byte("none")
	for i, c := range []struct {
		there others
		who   uint64
		alone bool
		e     api.Errno
		ops   int
		left  []uint64
	}{
		{others{}, 5, false, api.OK, 2, []uint64{5}},
		{others{1: free}, 5, false, api.OK, 3, []uint64{1, 5}},
		{others{1: free, 9: free}, 5, false, api.OK, 4, []uint64{1, 5, 9}},
		{others{1: free}, 5, true, api.ErrLocked, 2, []uint64{1}},
		{others{1: alone}, 5, false, api.ErrLocked, 2, []uint64{1}},
		{others{1: alone}, 5, true, api.ErrLocked, 2, []uint64{1}},
		{others{1: free, 9: alone}, 5, false, api.ErrLocked, 3, []uint64{1, 9}},
		{others{1: alone, 9: free}, 5, false, api.ErrLocked, 3, []uint64{1, 9}},
		// Stale ones go, those behind one that isn't, too.
		{others{1: old}, 5, true, api.OK, 4, []uint64{5}},
		{others{1: broken}, 5, true, api.OK, 4, []uint64{5}},
		{others{1: alone, 8: old, 9: broken}, 5, false, api.ErrLocked, 6, []uint64{1}},
		{others{1: free, 8: old, 9: broken}, 5, false, api.OK, 7, []uint64{1, 5}},
		// One's own isn't asked, whatever it is.
		{others{5: free}, 5, true, api.OK, 2, []uint64{5}},
		{others{5: alone}, 5, false, api.OK, 2, []uint64{5}},
		{others{5: old}, 5, false, api.OK, 2, []uint64{5}},
		{others{5: broken}, 5, true, api.OK, 2, []uint64{5}},
		{others{4: old, 5: alone, 6: free}, 5, false, api.OK, 5, []uint64{5, 6}},
		{others{4: old, 5: alone, 6: free}, 5, true, api.ErrLocked, 4, []uint64{5, 6}},
	} {
		s := store(t)
		for who, b := range c.there {
			put(t, s, lock.Name(who), b)
		}
		ahead := s.Ops()
		e := lock.Take(s, c.who, c.alone, 50, 10)
		if e != c.e || s.Ops()-ahead != c.ops || !slices.Equal(names(s), lockNames(c.left...)) {
			t.Errorf("case %d: %d, %d operations, %v", i, e, s.Ops()-ahead, names(s))
		}
		own := held(50, 0)
		if c.alone {
			own = held(50, 1)
		}
		if e != api.OK {
			own = c.there[c.who]
		}
		if b, _ := s.Get(lock.Name(c.who)); !slices.Equal(b, own) {
			t.Errorf("case %d: one's own is %x", i, b)
		}
	}
}

func TestStaleFromWhenOn(t *testing.T) {
	for _, c := range []struct {
		since      uint64
		now, stale int64
		is         bool
	}{
		{50, 50, 1, false}, {50, 51, 1, true}, {50, 59, 10, false}, {50, 60, 10, true}, {50, 61, 10, true},
		{50, 0, 1, false}, {1 << 50, 0, 1, false}, {1 << 50, 1 << 50, 1, false}, {0, 1 << 50, 1 << 50, true}, {0, 1 << 50, 1<<50 + 1, false},
		{0, 1 << 50, math.MaxInt64, false}, {0, 0, 1, false}, {0, 1, 1, true}, {1 << 50, 0, math.MaxInt64, false},
	} {
		s := store(t)
		put(t, s, lock.Name(1), held(c.since, 1))
		list, e := lock.Holders(s, c.now, c.stale)
		if e != api.OK || (len(list) == 0) != c.is || s.Len() != 1 {
			t.Errorf("%v: Holders: %v %d", c, list, e)
		}
		want, left := api.ErrLocked, lockNames(1)
		if c.is {
			want, left = api.OK, lockNames(2)
		}
		if e := lock.Take(s, 2, false, c.now, c.stale); e != want || !slices.Equal(names(s), left) {
			t.Errorf("%v: Take: %d %v", c, e, names(s))
		}
	}
}

func TestWhatIsNoLockIsStale(t *testing.T) {
	for i, b := range noLocks() {
		s := store(t)
		put(t, s, lock.Name(1), b)
		if list, e := lock.Holders(s, 50, math.MaxInt64); len(list) != 0 || e != api.OK || s.Len() != 1 || s.Ops() != 3 {
			t.Errorf("%d: %v %d", i, list, e)
		}
		if e := lock.Take(s, 2, true, 50, math.MaxInt64); e != api.OK || !slices.Equal(names(s), lockNames(2)) {
			t.Errorf("%d: %d %v", i, e, names(s))
		}
	}
}

func TestOtherNamesAreLeftOut(t *testing.T) {
	s := store(t)
	strange := []string{"lock", "lock/", "lock/1", "lock/00000000000000FF", "lock/00000000000000ff0", "lock/zzz", "locks/00000000000000ff", "pack/x"}
	for _, name := range strange {
		put(t, s, name, held(50, 1))
	}
	ahead := s.Ops()
	if list, e := lock.Holders(s, 50, 10); len(list) != 0 || e != api.OK || s.Ops() != ahead+1 {
		t.Errorf("%v %d", list, e)
	}
	if e := lock.Take(s, 255, true, 50, 10); e != api.OK || s.Ops() != ahead+3 || s.Len() != len(strange)+1 {
		t.Errorf("%d, %d operations, %v", e, s.Ops()-ahead, names(s))
	}
}

func TestFree(t *testing.T) {
	s := store(t)
	if e := lock.Free(s, 3); e != api.ErrNone || s.Ops() != 1 {
		t.Errorf("none: %d", e)
	}
	put(t, s, lock.Name(3), held(1, 1))
	put(t, s, lock.Name(4), held(1, 1))
	s.Arm(nil, []bool{true})
	if e := lock.Free(s, 3); e != api.ErrFault || s.Len() != 2 {
		t.Errorf("a fault: %d", e)
	}
	if e := lock.Free(s, 3); e != api.OK || !slices.Equal(names(s), lockNames(4)) {
		t.Errorf("%d %v", e, names(s))
	}
	put(t, s, lock.Name(3), nil)
	if e := lock.Free(s, 3); e != api.OK || s.Len() != 1 {
		t.Errorf("one that is none: %d", e)
	}
}

func TestHolders(t *testing.T) {
	s := store(t)
	for _, who := range []uint64{math.MaxUint64, 0, 255, 16, 1 << 63} {
		put(t, s, lock.Name(who), held(50, byte(who%2)))
	}
	put(t, s, lock.Name(17), held(40, 0))
	put(t, s, lock.Name(15), nil)
	ahead := s.Ops()
	list, e := lock.Holders(s, 50, 10)
	if !slices.Equal(list, []uint64{0, 16, 255, 1 << 63, math.MaxUint64}) || e != api.OK || s.Ops() != ahead+8 || s.Len() != 7 {
		t.Errorf("%v %d, %d operations", list, e, s.Ops()-ahead)
	}
	clear(list[:cap(list)])
	if again, _ := lock.Holders(s, 50, 10); len(again) != 5 || again[1] != 16 {
		t.Errorf("%v", again)
	}
}

// faultAt is faults of which one is true.
func faultAt(n int) []bool {
	return append(make([]bool, n), true)
}

func TestAFaultEndsIt(t *testing.T) {
	// The operations of Take: List, Get of 1, Get of 2, Drop of 2, Get of 3, Drop of 3, Put of 9.
	for n := range 8 {
		s := store(t)
		put(t, s, lock.Name(1), held(50, 0))
		put(t, s, lock.Name(2), held(1, 1))
		put(t, s, lock.Name(3), nil)
		want, e := api.ErrFault, api.OK
		left := [][]uint64{{1, 2, 3}, {1, 2, 3}, {1, 2, 3}, {1, 2, 3}, {1, 3}, {1, 3}, {1}, {1, 9}}[n]
		ops := min(n+1, 7)
		if n == 7 {
			want = api.OK
		}
		ahead := s.Ops()
		s.Arm(nil, faultAt(n))
		if e = lock.Take(s, 9, false, 50, 10); e != want || s.Ops()-ahead != ops || !slices.Equal(names(s), lockNames(left...)) {
			t.Errorf("fault %d: %d, %d operations, %v", n, e, s.Ops()-ahead, names(s))
		}
	}
	for n := range 4 {
		s := store(t)
		put(t, s, lock.Name(1), held(50, 0))
		put(t, s, lock.Name(2), held(50, 1))
		want, ops, holders := api.ErrFault, n+1, 0
		if n == 3 {
			want, ops, holders = api.OK, 3, 2
		}
		ahead := s.Ops()
		s.Arm(nil, faultAt(n))
		if list, e := lock.Holders(s, 50, 10); e != want || len(list) != holders || s.Ops()-ahead != ops {
			t.Errorf("fault %d: %v %d, %d operations", n, list, e, s.Ops()-ahead)
		}
	}
}

func TestAFaultIsAheadOfLocked(t *testing.T) {
	s := store(t)
	put(t, s, lock.Name(1), held(50, 1))
	put(t, s, lock.Name(2), held(50, 1))
	s.Arm(nil, faultAt(2))
	if e := lock.Take(s, 9, false, 50, 10); e != api.ErrFault {
		t.Errorf("%d", e)
	}
}

func TestAPutThatFails(t *testing.T) {
	s, _ := object.New(20)
	put(t, s, lock.Name(1), held(1, 0))
	put(t, s, "x", make([]byte, 6))
	// With 6 bytes beside it there is no room for a second lock of 14, but behind a stale one there is.
	if e := lock.Take(s, 2, false, 5, 10); e != api.ErrQuota || !slices.Equal(names(s), []string{lock.Name(1), "x"}) {
		t.Errorf("%d %v", e, names(s))
	}
	if e := lock.Take(s, 2, false, 11, 10); e != api.OK || !slices.Equal(names(s), []string{lock.Name(2), "x"}) {
		t.Errorf("%d %v", e, names(s))
	}
}

func TestThePowerGoes(t *testing.T) {
	for n := range 6 {
		s := store(t)
		put(t, s, lock.Name(1), held(50, 0))
		put(t, s, lock.Name(2), held(1, 1))
		f := guard.NewFuse(n)
		s.Arm(f, nil)
		var e api.Errno
		blew := f.Catch(func() { e = lock.Take(s, 9, false, 50, 10) })
		left := [][]uint64{{1, 2}, {1, 2}, {1, 2}, {1, 2}, {1}, {1, 9}}[n]
		if blew != (n < 5) || e != api.OK || !slices.Equal(names(s), lockNames(left...)) {
			t.Errorf("fuse for %d: %v %d %v", n, blew, e, names(s))
		}
		f = guard.NewFuse(0)
		s.Arm(f, nil)
		if !f.Catch(func() { lock.Free(s, 1) }) || !f.Catch(func() { lock.Holders(s, 50, 10) }) {
			t.Error("a fuse doesn't go through Free, or Holders")
		}
	}
}
