package cold_test

import (
	"bytes"
	"math"
	"math/rand"
	"slices"
	"strings"
	"testing"

	"coldstore/api"
	"coldstore/cold"
	"coldstore/guard"
)

// thing is a thing of a model: until when it is young; when its job is done (below 0: it has none), and when its life is over.
type thing struct {
	name              string
	b                 []byte
	young, done, over int64
}

// is is what a thing is.
func (x thing) is(now int64) int {
	switch {
	case x.done < 0 || now >= x.over && now >= x.done:
		return frozen
	case now >= x.done:
		return thawed
	}
	return pending
}

// model is what a store should be.
type model struct {
	quota, jobs int
	life, least int64
	things      []thing
	lost        int64
	faults      []bool
	left        int // how many steps its fuse has left; below 0: for ever
	ops         int
}

// bound is what a time counts as.
func bound(t int64) int64 {
	switch {
	case t < 0:
		return 0
	case t > 1<<50:
		return 1 << 50
	}
	return t
}

// operate tells whether an operation blows the fuse, and else its error.
func (m *model) operate() (bool, api.Errno) {
	if m.left == 0 {
		return true, api.OK
	}
	m.left--
	m.ops++
	if len(m.faults) == 0 {
		return false, api.OK
	}
	fault := m.faults[0]
	m.faults = m.faults[1:]
	if fault {
		return false, api.ErrFault
	}
	return false, api.OK
}

func (m *model) find(name string) (int, bool) {
	return slices.BinarySearchFunc(m.things, name, func(x thing, name string) int { return strings.Compare(x.name, name) })
}

func (m *model) state(name string, now int64) int {
	i, there := m.find(name)
	if !there {
		return none
	}
	return m.things[i].is(bound(now))
}

func (m *model) pending(now int64) int {
	n := 0
	for _, x := range m.things {
		if x.is(bound(now)) == pending {
			n++
		}
	}
	return n
}

func (m *model) youngFor(name string, now int64) int64 {
	i, there := m.find(name)
	if !there || m.things[i].young < bound(now) {
		return 0
	}
	return m.things[i].young - bound(now)
}

func (m *model) size() int {
	n := 0
	for _, x := range m.things {
		n += len(x.b)
	}
	return n
}

func (m *model) put(name string, b []byte, now int64) api.Errno {
	if name == "" || len(name) > 80 || strings.ContainsFunc(name, func(r rune) bool { return r < '!' || r > '~' }) {
		return api.ErrName
	}
	i, there := m.find(name)
	size := m.size() + len(b)
	if there {
		size -= len(m.things[i].b)
	}
	if size > m.quota {
		return api.ErrQuota
	}
	m.drop(name, now, true)
	m.things = slices.Insert(m.things, i, thing{name, b, bound(bound(now) + m.least), -1, 0})
	return api.OK
}

func (m *model) drop(name string, now int64, force bool) api.Errno {
	i, there := m.find(name)
	if !there {
		return api.ErrNone
	}
	if m.youngFor(name, now) > 0 && !force {
		return api.ErrYoung
	}
	m.lost += m.youngFor(name, now)
	m.things = slices.Delete(slices.Clone(m.things), i, i+1)
	return api.OK
}

func (m *model) get(name string, now int64) ([]byte, api.Errno) {
	i, there := m.find(name)
	switch {
	case !there:
		return nil, api.ErrNone
	case m.state(name, now) != thawed:
		return nil, api.ErrThaw
	}
	return m.things[i].b, api.OK
}

func (m *model) request(name string, now, wait int64) api.Errno {
	i, there := m.find(name)
	switch {
	case !there:
		return api.ErrNone
	case m.state(name, now) == pending, m.state(name, now) == thawed:
		return api.OK
	case wait < 0:
		return api.ErrArg
	case m.pending(now) >= m.jobs:
		return api.ErrJobs
	}
	m.things[i].done = bound(bound(now) + bound(wait))
	m.things[i].over = bound(m.things[i].done + m.life)
	return api.OK
}

func (m *model) fail(name string, now int64) bool {
	i, there := m.find(name)
	if !there || m.state(name, now) != pending {
		return false
	}
	m.things[i].done = -1
	return true
}

func (m *model) list(prefix string) []string {
	var names []string
	for _, x := range m.things {
		if strings.HasPrefix(x.name, prefix) {
			names = append(names, x.name)
		}
	}
	return names
}

// call is a call of a store and of its model: what each of them answered.
type call struct {
	name      string
	b         []byte
	now, wait int64
	force     bool
	got       []byte
	want      []byte
	gotList   []string
	wantList  []string
	e, wantE  api.Errno
}

// run does a call of a kind; its model's only if the operation goes on.
func (c *call) run(kind int, s *cold.Store, m *model, goes bool) {
	switch kind {
	case 0, 1, 2:
		c.e = s.Put(c.name, c.b, c.now)
		if goes {
			c.wantE = m.put(c.name, slices.Clone(c.b), c.now)
		}
		clear(c.b)
	case 3, 4, 5:
		c.got, c.e = s.Get(c.name, c.now)
		if goes {
			c.want, c.wantE = m.get(c.name, c.now)
		}
	case 6, 7:
		c.e = s.Drop(c.name, c.now, c.force)
		if goes {
			c.wantE = m.drop(c.name, c.now, c.force)
		}
	case 8, 9, 10, 11, 12:
		c.e = s.Request(c.name, c.now, c.wait)
		if goes {
			c.wantE = m.request(c.name, c.now, c.wait)
		}
	default:
		c.gotList, c.e = s.List(c.name)
		if goes {
			c.wantList = m.list(c.name)
		}
	}
}

// told holds all that a store tells without an operation against its model, at a time.
func told(t *testing.T, s *cold.Store, m *model, names []string, now int64) {
	t.Helper()
	i := 0
	for name, n := range s.All() {
		if i >= len(m.things) || m.things[i].name != name || len(m.things[i].b) != n {
			t.Fatalf("thing %d: %q of %d bytes", i, name, n)
		}
		i++
	}
	if i != len(m.things) || s.Len() != i || s.Size() != m.size() || s.Size() > m.quota || s.Ops() != m.ops || s.Lost() != m.lost {
		t.Fatalf("%d of %d things, %d, %d bytes, %d operations, %d is lost, not %d", i, len(m.things), s.Len(), s.Size(), s.Ops(), s.Lost(), m.lost)
	}
	for _, name := range names {
		if s.State(name, now) != m.state(name, now) || s.Left(name, now) != m.youngFor(name, now) {
			t.Fatalf("%q, at %d: %d, not %d; %d left, not %d", name, now, s.State(name, now), m.state(name, now), s.Left(name, now), m.youngFor(name, now))
		}
	}
	if s.Pending(now) != m.pending(now) {
		t.Fatalf("at %d: %d are pending, not %d", now, s.Pending(now), m.pending(now))
	}
}

// clock tells the next time, of the one ahead.
type clock func(r *rand.Rand, now int64) int64

// forward never goes back, and begins with some seeds so late that it comes to the last time.
func forward(r *rand.Rand, now int64) int64 {
	if now == 0 && r.Intn(4) == 0 {
		return api.MaxTime - 200
	}
	return now + int64(r.Intn(4))
}

// anyhow goes forward, back, and beyond its bounds.
func anyhow(r *rand.Rand, now int64) int64 {
	ends := []int64{math.MinInt64, -1, 0, 1, api.MaxTime - 3, api.MaxTime - 1, api.MaxTime, api.MaxTime + 1, math.MaxInt64}
	if r.Intn(9) == 0 {
		return ends[r.Intn(len(ends))]
	}
	return int64(r.Intn(40))
}

// someCall is a call of some name, at a time.
func someCall(r *rand.Rand, names []string, now int64) *call {
	waits := []int64{0, 1, 2, 3, 5, 9, -1, math.MinInt64, api.MaxTime, math.MaxInt64}
	wait := waits[r.Intn(6)]
	if r.Intn(9) == 0 {
		wait = waits[r.Intn(len(waits))]
	}
	c := &call{name: names[r.Intn(len(names))], b: make([]byte, r.Intn(9)), now: now, wait: wait, force: r.Intn(3) == 0}
	r.Read(c.b)
	return c
}

// someFaults is some faults.
func someFaults(r *rand.Rand) []bool {
	faults := make([]bool, r.Intn(5))
	for i := range faults {
		faults[i] = r.Intn(2) == 0
	}
	return faults
}

// play plays calls of a store and its model, as a seed and a clock choose them.
func play(t *testing.T, seed int64, next clock, check func(s *cold.Store, m *model, c *call)) {
	t.Helper()
	names := []string{"a", "ab", "b", "c", "d", "~", "", "a b", strings.Repeat("n", 81)}
	r := rand.New(rand.NewSource(seed))
	m := &model{quota: 10 + r.Intn(30), jobs: 1 + r.Intn(3), life: 1 + r.Int63n(9), least: r.Int63n(9), left: -1}
	s := made(t, m.quota, m.jobs, m.life, m.least)
	fuse := guard.NewFuse(-1)
	now := int64(0)
	for range 500 {
		now = next(r, now)
		if r.Intn(20) == 0 {
			m.faults, m.left = someFaults(r), r.Intn(20)-4
			fuse = guard.NewFuse(m.left)
			s.Arm(fuse, m.faults)
		}
		if name := names[r.Intn(len(names))]; r.Intn(9) == 0 && s.Fail(name, now) != m.fail(name, now) {
			t.Fatalf("Fail of %q isn't %v", name, m.fail(name, now))
		}
		c := someCall(r, names, now)
		blows, e := m.operate()
		c.wantE = e
		kind := r.Intn(14)
		if fuse.Catch(func() { c.run(kind, s, m, !blows && e == api.OK) }) != blows {
			t.Fatalf("kind %d: blows isn't %v", kind, blows)
		}
		if !blows && c.e != c.wantE || !bytes.Equal(c.got, c.want) || !slices.Equal(c.gotList, c.wantList) {
			t.Fatalf("seed %d, kind %d: %+v", seed, kind, c)
		}
		told(t, s, m, names, now)
		told(t, s, m, names, next(rand.New(rand.NewSource(seed)), now))
		check(s, m, c)
	}
}

func TestEveryOrderOfCalls(t *testing.T) {
	for seed := range int64(100) {
		play(t, seed, forward, func(*cold.Store, *model, *call) {})
		play(t, seed, anyhow, func(*cold.Store, *model, *call) {})
	}
}

func TestNeverMoreJobsThanMayBe(t *testing.T) {
	most := 0
	for seed := range int64(100) {
		play(t, seed, forward, func(s *cold.Store, m *model, c *call) {
			if s.Pending(c.now) > m.jobs {
				t.Fatalf("%d jobs, of %d", s.Pending(c.now), m.jobs)
			}
			if c.got != nil && s.State(c.name, c.now) != thawed {
				t.Fatalf("%q was got, and isn't thawed", c.name)
			}
			most = max(most, s.Pending(c.now))
		})
	}
	if most != 3 {
		t.Errorf("as many as %d jobs were pending", most)
	}
}

func TestWithoutForceNothingIsLost(t *testing.T) {
	for seed := range int64(100) {
		r := rand.New(rand.NewSource(seed))
		s := made(t, 50, 2, 5, 8)
		now := int64(0)
		for range 300 {
			now += int64(r.Intn(3))
			name := string(rune('a' + r.Intn(5)))
			young := s.Left(name, now) > 0
			switch r.Intn(3) {
			case 0:
				if s.State(name, now) == none {
					put(t, s, name, "1", now)
				}
			case 1:
				s.Request(name, now, 3)
			default:
				if e := s.Drop(name, now, false); young && (e != api.ErrYoung || s.State(name, now) == none) {
					t.Fatalf("%q went: %d", name, e)
				}
			}
			lost(t, s, 0)
		}
	}
}
