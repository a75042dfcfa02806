package prune

import (
	"bytes"
	"iter"
	"maps"
	"slices"

	"coldstore/api"
	"coldstore/backup"
	"coldstore/depot"
	"coldstore/guard"
	"coldstore/index"
	"coldstore/pack"
	"coldstore/walk"
)

// Live is the live blobs.
func Live(d *depot.Depot, now int64) ([]api.ID, api.Errno) {
	found := map[api.ID]struct{}{}
	load := func(id api.ID) ([]byte, api.Errno) { return d.Load(id, now) }
	e := guard.Run(func() {
		for _, n := range guard.Value(backup.List(d.Hot())) {
			for _, id := range guard.Value(walk.Sums(n.Snap.Root, load)) {
				found[id] = struct{}{}
			}
		}
	})
	if e != api.OK {
		return nil, e
	}
	return slices.SortedFunc(maps.Keys(found), compare), api.OK
}

// compare is below 0, if a is less, byte by byte, and above 0, if b is.
func compare(a, b api.ID) int {
	return bytes.Compare(a[:], b[:])
}

// liveIn is the live blobs of each pack that has any, as they stand there.
func liveIn(x *index.Index, live []api.ID) map[api.ID][]pack.Entry {
	left := map[api.ID]struct{}{}
	for _, id := range live {
		left[id] = struct{}{}
	}
	lists := map[api.ID][]pack.Entry{}
	for id, list := range byPlace(x) {
		for _, e := range list {
			if _, is := left[e.ID]; is {
				// Where a blob comes first is its place, so it is no other pack's.
				delete(left, e.ID)
				lists[id] = append(lists[id], e)
			}
		}
	}
	return lists
}

// byPlace is an index's packs, and the blobs of each, in the order in which a blob's place is looked for: the hot ones first.
func byPlace(x *index.Index) iter.Seq2[api.ID, []pack.Entry] {
	return func(yield func(api.ID, []pack.Entry) bool) {
		for _, isCold := range []bool{false, true} {
			for id, cold := range x.Packs() {
				if cold != isCold {
					continue
				}
				list, _, _ := x.Pack(id)
				if !yield(id, list) {
					return
				}
			}
		}
	}
}

// liveOf is the sums of the live blobs of some packs, pack by pack, as they stand there.
func liveOf(x *index.Index, live, packs []api.ID) []api.ID {
	lists := liveIn(x, live)
	var ids []api.ID
	for _, id := range packs {
		for _, e := range lists[id] {
			ids = append(ids, e.ID)
		}
	}
	return ids
}
