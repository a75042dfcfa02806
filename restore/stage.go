package restore

import (
	"coldstore/api"
	"coldstore/guard"
	"coldstore/pack"
	"coldstore/sha"
	"coldstore/thaw"
)

// packDir is what a pack's name begins with.
const packDir = "pack/"

// thawed is what layer 24's All tells of a pack that is thawed.
const thawed = 2

// need is a needed blob, and its place.
type need struct {
	id    api.ID
	place api.Place
}

// needed is those of some blobs that are needed, in order.
func (r *Restore) needed(sums []api.ID) []need {
	x := r.depot.Index()
	var list []need
	for _, id := range sums {
		if _, staged := r.staged[id]; staged {
			continue
		}
		if place, found := x.Find(id); found && place.Cold {
			list = append(list, need{id, place})
		}
	}
	return list
}

// packs is the packs that needed blobs are in, rising.
func (r *Restore) packs(needed []need) []api.ID {
	var ids []api.ID
	for _, n := range needed {
		ids = append(ids, n.id)
	}
	return thaw.Needed(r.depot.Index(), ids)
}

// stageThawed stages those of the needed blobs whose packs are thawed: the packs that the others need. It throws the error.
func (r *Restore) stageThawed(needed []need, now int64) []api.ID {
	c := r.depot.Cold()
	var left []api.ID
	for id, what := range thaw.All(thaw.Look(c, r.packs(needed), now)) {
		if what != thawed {
			left = append(left, id)
			continue
		}
		r.stageFrom(id, guard.Value(c.Get(packDir+sha.Text(id), now)), needed)
	}
	return left
}

// stageFrom stages those of the needed blobs that are in a pack; it throws the error.
func (r *Restore) stageFrom(id api.ID, packed []byte, needed []need) {
	for _, n := range needed {
		if n.place.Pack == id {
			r.stage(n.id, guard.Value(pack.Blob(packed, pack.Entry{ID: n.id, Off: n.place.Off, Len: n.place.Len})))
		}
	}
}

// stage stages a blob; it throws the error.
func (r *Restore) stage(id api.ID, blob []byte) {
	if r.size+len(blob) > r.room {
		guard.Must(api.ErrFull)
	}
	r.staged[id] = blob
	r.size += len(blob)
}
