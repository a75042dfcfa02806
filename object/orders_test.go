package object_test

import (
	"bytes"
	"math/rand"
	"slices"
	"strings"
	"testing"

	"coldstore/api"
	"coldstore/guard"
	"coldstore/object"
)

// thing is a thing of a model.
type thing struct {
	name string
	b    []byte
}

// model is what a store should be, as a list that is sorted by names.
type model struct {
	quota  int
	things []thing
	faults []bool
	left   int // how many steps its fuse has left; below 0: for ever
	ops    int
}

// operate tells whether an operation blows the fuse, and else its error.
func (m *model) operate() (bool, api.Errno) {
	if m.left == 0 {
		return true, api.OK
	}
	m.left--
	m.ops++
	if len(m.faults) == 0 {
		return false, api.OK
	}
	fault := m.faults[0]
	m.faults = m.faults[1:]
	if fault {
		return false, api.ErrFault
	}
	return false, api.OK
}

func (m *model) find(name string) (int, bool) {
	return slices.BinarySearchFunc(m.things, name, func(t thing, name string) int { return strings.Compare(t.name, name) })
}

func (m *model) size() int {
	n := 0
	for _, t := range m.things {
		n += len(t.b)
	}
	return n
}

func (m *model) put(name string, b []byte) api.Errno {
	bad := func(r rune) bool { return r < '!' || r > '~' }
	if name == "" || len(name) > 80 || strings.ContainsFunc(name, bad) {
		return api.ErrName
	}
	next := model{things: slices.Clone(m.things)}
	i, there := next.find(name)
	if there {
		next.things[i].b = b
	} else {
		next.things = slices.Insert(next.things, i, thing{name, b})
	}
	if next.size() > m.quota {
		return api.ErrQuota
	}
	m.things = next.things
	return api.OK
}

func (m *model) get(name string) ([]byte, api.Errno) {
	i, there := m.find(name)
	if !there {
		return nil, api.ErrNone
	}
	return m.things[i].b, api.OK
}

func (m *model) drop(name string) api.Errno {
	i, there := m.find(name)
	if !there {
		return api.ErrNone
	}
	m.things = slices.Delete(slices.Clone(m.things), i, i+1)
	return api.OK
}

func (m *model) list(prefix string) []string {
	var names []string
	for _, t := range m.things {
		if strings.HasPrefix(t.name, prefix) {
			names = append(names, t.name)
		}
	}
	return names
}

// step is a call of a store and of its model: what each of them answered.
type step struct {
	name     string
	b        []byte
	got      []byte
	want     []byte
	gotList  []string
	wantList []string
	e, wantE api.Errno
}

// run does a call of a kind; its model's only if the operation goes on.
func (c *step) run(kind int, s *object.Store, m *model, goes bool) {
	switch kind {
	case 0, 1, 2, 3:
		c.e = s.Put(c.name, c.b)
		if goes {
			c.wantE = m.put(c.name, slices.Clone(c.b))
		}
		clear(c.b)
	case 4, 5:
		c.got, c.e = s.Get(c.name)
		if goes {
			c.want, c.wantE = m.get(c.name)
		}
	case 6, 7:
		c.e = s.Drop(c.name)
		if goes {
			c.wantE = m.drop(c.name)
		}
	default:
		c.gotList, c.e = s.List(c.name)
		if goes {
			c.wantList = m.list(c.name)
		}
	}
}

// someFaults is some faults.
func someFaults(r *rand.Rand) []bool {
	faults := make([]bool, r.Intn(5))
	for i := range faults {
		faults[i] = r.Intn(2) == 0
	}
	return faults
}

// told holds all that a store tells without an operation against its model.
func told(t *testing.T, s *object.Store, m *model) {
	t.Helper()
	i, size := 0, 0
	for name, n := range s.All() {
		if i >= len(m.things) || m.things[i].name != name || len(m.things[i].b) != n {
			t.Fatalf("thing %d: %q of %d bytes", i, name, n)
		}
		i++
		size += n
	}
	if i != len(m.things) || s.Len() != i || s.Size() != size || size > m.quota || s.Ops() != m.ops {
		t.Fatalf("%d of %d things, %d, %d bytes of %d, %d operations, not %d", i, len(m.things), s.Len(), s.Size(), size, s.Ops(), m.ops)
	}
}

func TestEveryOrderOfCalls(t *testing.T) {
	names := []string{"a", "ab", "b", "a/b", "~", "!", "", "a b", "\x7f", strings.Repeat("n", 80), strings.Repeat("n", 81)}
	for seed := range 60 {
		r := rand.New(rand.NewSource(int64(seed)))
		m := &model{quota: r.Intn(40), left: -1}
		s := made(t, m.quota)
		fuse := guard.NewFuse(-1)
		for range 400 {
			if r.Intn(12) == 0 {
				m.faults, m.left = someFaults(r), r.Intn(20)-4
				fuse = guard.NewFuse(m.left)
				s.Arm(fuse, m.faults)
			}
			c := step{name: names[r.Intn(len(names))], b: make([]byte, r.Intn(16))}
			r.Read(c.b)
			blows, e := m.operate()
			c.wantE = e
			kind := r.Intn(9)
			if fuse.Catch(func() { c.run(kind, s, m, !blows && e == api.OK) }) != blows {
				t.Fatalf("kind %d: blows isn't %v", kind, blows)
			}
			if !blows && c.e != c.wantE || !bytes.Equal(c.got, c.want) || !slices.Equal(c.gotList, c.wantList) {
				t.Fatalf("kind %d of %q: %+v", kind, c.name, c)
			}
			told(t, s, m)
		}
	}
}
