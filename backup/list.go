package backup

import (
	"slices"

	"coldstore/api"
	"coldstore/guard"
	"coldstore/object"
	"coldstore/snap"
)

// dir is what a snapshot's name in a store begins with.
const dir = "snap/"

// List is all snapshots.
func List(s *object.Store) ([]Named, api.Errno) {
	var list []Named
	e := guard.Run(func() {
		for _, name := range guard.Value(s.List(dir)) {
			b := guard.Value(s.Get(name))
			// What isn't that snapshot is left out, whatever is wrong with it.
			if found, wrong := read(name, b); wrong == api.OK {
				list = append(list, Named{Name: name, Snap: found})
			}
		}
	})
	if e != api.OK {
		return nil, e
	}
	slices.SortStableFunc(list, compare)
	return list, api.OK
}

// Load is a snapshot by its name.
func Load(s *object.Store, name string) (snap.Snap, api.Errno) {
	b, e := s.Get(name)
	if e != api.OK {
		return snap.Snap{}, e
	}
	return read(name, b)
}

// read is the snapshot of bytes that a name has.
func read(name string, b []byte) (snap.Snap, api.Errno) {
	if snap.Name(b) != name {
		return snap.Snap{}, api.ErrHash
	}
	return snap.Decode(b)
}

// compare is below 0, if a is ahead of b, and above 0, if it is behind it.
func compare(a, b Named) int {
	switch {
	case snap.Less(a.Snap, b.Snap):
		return -1
	case snap.Less(b.Snap, a.Snap):
		return 1
	}
	return 0
}
