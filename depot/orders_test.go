package depot_test

import (
	"bytes"
	"maps"
	"math/rand"
	"slices"
	"strings"
	"testing"

	"coldstore/api"
	"coldstore/cache"
	"coldstore/cold"
	"coldstore/depot"
	"coldstore/index"
	"coldstore/object"
	"coldstore/pack"
)

// model is what a depot, and its hot store, should be.
type model struct {
	hot    map[string]string
	quota  int
	faults []bool
	ops    int
	index  *index.Index
	cache  *cache.Cache
}

// fault is whether the next operation of the hot store has one.
func (m *model) fault() bool {
	m.ops++
	if len(m.faults) == 0 {
		return false
	}
	f := m.faults[0]
	m.faults = m.faults[1:]
	return f
}

func (m *model) put(name, b string) api.Errno {
	if m.fault() {
		return api.ErrFault
	}
	size := len(b) - len(m.hot[name])
	for _, x := range m.hot {
		size += len(x)
	}
	if size > m.quota {
		return api.ErrQuota
	}
	m.hot[name] = b
	return api.OK
}

func (m *model) commit(x *index.Index) api.Errno {
	e := m.put("index", string(x.Encode()))
	if e == api.OK {
		m.index = x.Clone()
	}
	return e
}

// load is a blob, if the cold store, of which nothing is turned, answers so.
func (m *model) load(blob string, frozen api.Errno) api.Errno {
	if _, kept := m.cache.Get(sum(blob)); kept {
		return api.OK
	}
	p, found := m.index.Find(sum(blob))
	if !found {
		return api.ErrNone
	}
	if p.Cold {
		return frozen
	}
	if m.fault() {
		return api.ErrFault
	}
	for name, b := range m.hot {
		if named(b) == name && sum(b) == p.Pack {
			if b[p.Off:p.Off+p.Len] != blob {
				return api.ErrHash
			}
			m.cache.Put([]byte(blob))
			return api.OK
		}
	}
	return api.ErrNone
}

// saver is what a saver should be: the blobs of its pack, all that were added, and the packs that were put.
type saver struct {
	m      *model
	target int
	pack   []string
	seen   []string
	stored [][]string
}

func (s *saver) put() api.Errno {
	b, _ := packed(s.pack...)
	e := s.m.put(named(b), b)
	if e == api.OK {
		s.stored = append(s.stored, s.pack)
		s.pack = nil
	}
	return e
}

func (s *saver) putFilled() api.Errno {
	if b, _ := packed(s.pack...); len(s.pack) == 0 || len(b) < s.target {
		return api.OK
	}
	return s.put()
}

func (s *saver) add(blob string) api.Errno {
	if _, found := s.m.index.Find(sum(blob)); found || slices.Contains(s.seen, blob) {
		return api.OK
	}
	if e := s.putFilled(); e != api.OK {
		return e
	}
	if len(blob) > 1<<16 {
		return api.ErrLong
	}
	if b, _ := packed(append(s.pack[:len(s.pack):len(s.pack)], blob)...); len(b) > 1<<20 {
		if e := s.put(); e != api.OK {
			return e
		}
	}
	s.pack = append(s.pack, blob)
	s.seen = append(s.seen, blob)
	return s.putFilled()
}

func (s *saver) done() api.Errno {
	if len(s.pack) > 0 {
		if e := s.put(); e != api.OK {
			return e
		}
	}
	if len(s.stored) == 0 {
		return api.OK
	}
	x := s.m.index.Clone()
	for _, p := range s.stored {
		b, list := packed(p...)
		x.Put(sum(b), false, list)
	}
	e := s.m.commit(x)
	if e == api.OK {
		s.stored = nil
	}
	return e
}

// same tells that a depot, and its hot store, are just a model's.
func same(t *testing.T, d *depot.Depot, hot *object.Store, m *model) {
	t.Helper()
	if hot.Ops() != m.ops {
		t.Fatalf("%d operations, not %d", hot.Ops(), m.ops)
	}
	if got := things(hot); !slices.Equal(got, slices.Sorted(maps.Keys(m.hot))) {
		t.Fatalf("%v, not %v", got, m.hot)
	}
	if !bytes.Equal(d.Index().Encode(), m.index.Encode()) {
		t.Fatal("the index is another one")
	}
	if got := slices.Collect(d.Cache().All()); !slices.Equal(got, slices.Collect(m.cache.All())) {
		t.Fatalf("%d kept, not %d", len(got), m.cache.Len())
	}
}

// choice is a blob, one of few.
func choice(r *rand.Rand) string {
	switch n := r.Intn(40); n {
	case 0:
		return ""
	case 1:
		return strings.Repeat("long", 1<<14) + "x"
	default:
		return strings.Repeat(string(rune('a'+n%26)), n)
	}
}

// moved is an index with a pack more, or fewer, or one that is a cold one, or isn't any more.
func moved(r *rand.Rand, x *index.Index) *index.Index {
	var ids []api.ID
	for id := range x.Packs() {
		ids = append(ids, id)
	}
	switch n := r.Intn(4); {
	case n == 0 || len(ids) == 0:
		x.Put(api.ID{byte(r.Intn(256))}, false, []pack.Entry{{ID: sum(choice(r)), Off: r.Intn(9), Len: 3}})
	case n == 1:
		x.Drop(ids[r.Intn(len(ids))])
	default:
		x.Move(ids[r.Intn(len(ids))], n == 2)
	}
	return x
}

func TestEveryOrder(t *testing.T) {
	r := rand.New(rand.NewSource(16))
	errors := map[api.Errno]int{}
	for range 60 {
		limit, quota := r.Intn(80), 1500+r.Intn(3000)
		m := &model{hot: map[string]string{}, quota: quota, index: &index.Index{}, cache: cache.New(limit)}
		hot, _ := object.New(quota)
		away, _ := cold.New(0, 1, 1, 0)
		d := opened(t, hot, away, limit)
		m.ops++
		var savers []*depot.Saver
		var models []*saver
		for range 3 {
			target := r.Intn(300) - 20
			savers = append(savers, d.Saver(target))
			models = append(models, &saver{m: m, target: max(target, 1)})
		}
		for range 150 {
			i := r.Intn(len(savers))
			var got, want api.Errno
			switch r.Intn(12) {
			case 0:
				m.faults = append(make([]bool, r.Intn(4)), true)
				hot.Arm(nil, m.faults)
			case 1, 2:
				got, want = savers[i].Done(), models[i].done()
			case 3:
				x := moved(r, d.Index())
				got, want = d.Commit(x), m.commit(x)
			case 4, 5, 6:
				blob := choice(r)
				// The cold store has nothing.
				want = m.load(blob, api.ErrNone)
				var b []byte
				if b, got = d.Load(sum(blob), 0); got == api.OK && string(b) != blob || got != api.OK && len(b) > 0 {
					t.Fatalf("Load: %q", b)
				}
			case 7:
				m.fault()
				hot.Drop("none")
			default:
				blob := choice(r)
				var id api.ID
				if id, got = savers[i].Add([]byte(blob)); id != sum(blob) {
					t.Fatalf("Add: %x", id)
				}
				want = models[i].add(blob)
			}
			if got != want {
				t.Fatalf("%d, not %d", got, want)
			}
			errors[got]++
			same(t, d, hot, m)
		}
		hot.Arm(nil, nil)
		// Who opens the stores has just what the model's index has.
		again := opened(t, hot, away, limit)
		if !bytes.Equal(again.Index().Encode(), m.index.Encode()) {
			t.Fatal("who opens the stores has another index")
		}
	}
	for _, e := range []api.Errno{api.OK, api.ErrNone, api.ErrLong, api.ErrFault, api.ErrQuota} {
		if errors[e] < 20 {
			t.Errorf("%d was answered %d times", e, errors[e])
		}
	}
}
