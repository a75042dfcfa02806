package tier

import (
	"coldstore/api"
	"coldstore/depot"
	"coldstore/index"
	"coldstore/sha"
)

// packDir and noteDir are what a pack's name, and a note's, begins with.
const (
	packDir = "pack/"
	noteDir = "move/"
)

// packName is a pack's name by its sum.
func packName(id api.ID) string {
	return packDir + sha.Text(id)
}

// move is a pack that is moved, step by step.
type move struct {
	depot *depot.Depot
	// index is as the depot's own, but what becomes of it until that is committed.
	index *index.Index
	id    api.ID
	now   int64
	// pack is the pack's bytes, once they were got.
	pack []byte
}

// begin notes that the pack is moved.
func (m *move) begin() api.Errno {
	return m.depot.Hot().Put(noteDir+sha.Text(m.id), nil)
}

// get gets the pack from the hot store.
func (m *move) get() api.Errno {
	b, e := m.depot.Hot().Get(packName(m.id))
	m.pack = b
	return e
}

// putOnce puts the pack into the cold store, unless it is there.
func (m *move) putOnce() api.Errno {
	there, e := isListed(m.depot.Cold().List, m.id)
	if e != api.OK || there {
		return e
	}
	return m.put()
}

// put puts the pack into the cold store.
func (m *move) put() api.Errno {
	return m.depot.Cold().Put(packName(m.id), m.pack, m.now)
}

// commit makes the pack a cold one.
func (m *move) commit() api.Errno {
	m.index.Move(m.id, true)
	return m.depot.Commit(m.index)
}

// drop lets the pack go from the hot store.
func (m *move) drop() api.Errno {
	return m.depot.Hot().Drop(packName(m.id))
}

// end lets the note go.
func (m *move) end() api.Errno {
	return m.depot.Hot().Drop(noteDir + sha.Text(m.id))
}

// isListed tells whether a store lists a pack.
func isListed(list func(prefix string) ([]string, api.Errno), id api.ID) (bool, api.Errno) {
	names, e := list(packName(id))
	return len(names) > 0, e
}
