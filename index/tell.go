package index

import (
	"bytes"
	"iter"
	"slices"

	"coldstore/api"
	"coldstore/pack"
)

// compare is below 0, if a is less, byte by byte, and above 0, if b is.
func compare(a, b api.ID) int {
	return bytes.Compare(a[:], b[:])
}

// Pack is a pack's blobs.
func (x *Index) Pack(id api.ID) ([]pack.Entry, bool, bool) {
	p, there := x.packs[id]
	return slices.Clone(p.list), p.cold, there
}

// Packs is all packs.
func (x *Index) Packs() iter.Seq2[api.ID, bool] {
	// Listed ahead, so that what is put, moved and dropped behind the call makes no difference.
	var ids []api.ID
	for id := range x.packs {
		ids = append(ids, id)
	}
	slices.SortFunc(ids, compare)
	colds := make([]bool, len(ids))
	for i, id := range ids {
		colds[i] = x.packs[id].cold
	}
	return func(yield func(api.ID, bool) bool) {
		for i, id := range ids {
			if !yield(id, colds[i]) {
				return
			}
		}
	}
}

// Find is a blob's place.
func (x *Index) Find(blob api.ID) (api.Place, bool) {
	var first api.Place
	found := false
	for id, p := range x.packs {
		at := api.Place{Pack: id, Cold: p.cold}
		// Asked ahead of the list, which may be long.
		if found && !isAhead(at, first) {
			continue
		}
		i := slices.IndexFunc(p.list, func(e pack.Entry) bool { return e.ID == blob })
		if i < 0 {
			continue
		}
		at.Off, at.Len = p.list[i].Off, p.list[i].Len
		first, found = at, true
	}
	return first, found
}

// isAhead tells whether one place's pack is ahead of another one's: a hot one of a cold one, or else that of the lesser sum.
func isAhead(a, b api.Place) bool {
	if a.Cold != b.Cold {
		return b.Cold
	}
	return compare(a.Pack, b.Pack) < 0
}

// Blobs is all blobs.
func (x *Index) Blobs() iter.Seq[api.ID] {
	// Listed ahead, as packs are.
	var ids []api.ID
	for _, p := range x.packs {
		for _, e := range p.list {
			ids = append(ids, e.ID)
		}
	}
	slices.SortFunc(ids, compare)
	return slices.Values(slices.Compact(ids))
}
