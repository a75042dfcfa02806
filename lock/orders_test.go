package lock_test

import (
	"encoding/binary"
	"maps"
	"math/rand"
	"slices"
	"testing"

	"coldstore/api"
	"coldstore/lock"
	"coldstore/object"
)

// model is what a store of locks should be.
type model struct {
	locks  map[uint64][]byte
	faults []bool
	ops    int
}

// fault is whether the next operation has one.
func (m *model) fault() bool {
	m.ops++
	if len(m.faults) == 0 {
		return false
	}
	f := m.faults[0]
	m.faults = m.faults[1:]
	return f
}

// fresh tells whether bytes are a lock's that isn't stale, and whether it is for oneself alone.
func fresh(b []byte, now, stale int64) (bool, bool) {
	if len(b) != 14 || b[9] > 1 {
		return false, false
	}
	since := binary.LittleEndian.Uint64(b[1:9])
	if since > 1<<50 || !slices.Equal(b, held(since, b[9])) {
		return false, false
	}
	return now-int64(since) < stale, b[9] == 1
}

func (m *model) take(who uint64, alone bool, now, stale int64) api.Errno {
	if now < 0 || now > 1<<50 || stale < 1 {
		return api.ErrRange
	}
	if m.fault() {
		return api.ErrFault
	}
	locked := false
	for _, w := range slices.Sorted(maps.Keys(m.locks)) {
		if w == who {
			continue
		}
		if m.fault() {
			return api.ErrFault
		}
		is, its := fresh(m.locks[w], now, stale)
		if is && (its || alone) {
			locked = true
		}
		if !is {
			if m.fault() {
				return api.ErrFault
			}
			delete(m.locks, w)
		}
	}
	if locked {
		return api.ErrLocked
	}
	if m.fault() {
		return api.ErrFault
	}
	mark := byte(0)
	if alone {
		mark = 1
	}
	m.locks[who] = held(uint64(now), mark)
	return api.OK
}

func (m *model) free(who uint64) api.Errno {
	if m.fault() {
		return api.ErrFault
	}
	if _, there := m.locks[who]; !there {
		return api.ErrNone
	}
	delete(m.locks, who)
	return api.OK
}

func (m *model) holders(now, stale int64) ([]uint64, api.Errno) {
	if now < 0 || now > 1<<50 || stale < 1 {
		return nil, api.ErrRange
	}
	if m.fault() {
		return nil, api.ErrFault
	}
	var list []uint64
	for _, w := range slices.Sorted(maps.Keys(m.locks)) {
		if m.fault() {
			return nil, api.ErrFault
		}
		if is, _ := fresh(m.locks[w], now, stale); is {
			list = append(list, w)
		}
	}
	return list, api.OK
}

// same tells that a store has just a model's locks, and had as many operations.
func same(t *testing.T, s *object.Store, m *model, ahead int) {
	t.Helper()
	if !slices.Equal(names(s), lockNames(slices.Sorted(maps.Keys(m.locks))...)) || s.Ops() != m.ops+ahead {
		t.Fatalf("%v, not %v; %d operations, not %d", names(s), m.locks, s.Ops()-ahead, m.ops)
	}
}

func TestEveryOrder(t *testing.T) {
	r := rand.New(rand.NewSource(15))
	strange := noLocks()
	for range 60 {
		s := store(t)
		m := &model{locks: map[uint64][]byte{}}
		ahead := 0
		for range 120 {
			now, stale := int64(r.Intn(42)-1), int64(r.Intn(12))
			who := uint64(r.Intn(5)) * 0x1111111111111111
			switch r.Intn(9) {
			case 0:
				m.faults = faultAt(r.Intn(8))
				s.Arm(nil, m.faults)
			case 1:
				s.Arm(nil, nil)
				m.faults = nil
				m.locks[who] = strange[r.Intn(len(strange))]
				put(t, s, lock.Name(who), m.locks[who])
				ahead++
			case 2:
				if got, want := lock.Free(s, who), m.free(who); got != want {
					t.Fatalf("Free: %d, not %d", got, want)
				}
			case 3, 4:
				got, e := lock.Holders(s, now, stale)
				if want, f := m.holders(now, stale); e != f || !slices.Equal(got, want) {
					t.Fatalf("Holders: %v %d, not %v %d", got, e, want, f)
				}
			default:
				alone := r.Intn(3) == 0
				if got, want := lock.Take(s, who, alone, now, stale), m.take(who, alone, now, stale); got != want {
					t.Fatalf("Take: %d, not %d", got, want)
				}
			}
			same(t, s, m, ahead)
		}
	}
}

// TestTwoAtOnce plays holders that take locks as time goes on, and asks who has one, by what Take answered alone.
func TestTwoAtOnce(t *testing.T) {
	r := rand.New(rand.NewSource(16))
	const stale = 10
	type hold struct {
		until int64
		alone bool
	}
	locked, together := 0, 0
	for range 50 {
		s := store(t)
		has := map[uint64]hold{}
		now := int64(0)
		for range 100 {
			now += int64(r.Intn(3))
			who := uint64(r.Intn(4))
			maps.DeleteFunc(has, func(_ uint64, h hold) bool { return h.until <= now })
			if r.Intn(8) == 0 {
				s.Arm(nil, faultAt(r.Intn(5)))
			}
			if r.Intn(4) == 0 {
				if lock.Free(s, who) == api.OK {
					delete(has, who)
				}
				continue
			}
			alone := r.Intn(3) == 0
			switch lock.Take(s, who, alone, now, stale) {
			case api.OK:
				has[who] = hold{now + stale, alone}
			case api.ErrLocked:
				locked++
			}
			for _, h := range has {
				if h.alone && len(has) > 1 {
					t.Fatalf("%v", has)
				}
			}
			if len(has) > 1 {
				together++
			}
		}
	}
	if locked == 0 || together == 0 {
		t.Errorf("%d were refused, %d times there were several", locked, together)
	}
}
