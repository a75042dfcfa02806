package walk

import (
	"coldstore/api"
	"coldstore/guard"
)

// finder finds the sums of a tree's blobs.
type finder struct {
	loader
	sums []api.ID
	// found has all of sums.
	found map[api.ID]struct{}
	// trees has those that were loaded. A sum may be found as a chunk's alone, so it isn't told by found.
	trees map[api.ID]struct{}
}

// dir finds a tree, and all that it has; it throws the error.
func (f *finder) dir(id api.ID) {
	f.find(id)
	if _, loaded := f.trees[id]; loaded {
		return
	}
	// Ahead of what it has, since what loads may tell of a tree that has itself.
	f.trees[id] = struct{}{}
	for _, n := range f.nodes(id) {
		if n.Dir {
			f.dir(n.Sub)
		}
		for _, part := range n.Parts {
			f.find(part)
		}
	}
}

// find finds a sum, unless it was; it throws the error.
func (f *finder) find(id api.ID) {
	if _, found := f.found[id]; found {
		return
	}
	if len(f.sums) == api.MaxBlobs {
		guard.Must(api.ErrMany)
	}
	f.found[id] = struct{}{}
	f.sums = append(f.sums, id)
}
