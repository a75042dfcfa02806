package verify

import (
	"slices"

	"coldstore/api"
	"coldstore/depot"
	"coldstore/guard"
	"coldstore/index"
	"coldstore/pack"
	"coldstore/prune"
	"coldstore/sha"
)

// packDir is what a pack's name begins with.
const packDir = "pack/"

// packName is a pack's name by its sum.
func packName(id api.ID) string {
	return packDir + sha.Text(id)
}

// Check tells what is missing, lost or bad.
func Check(d *depot.Depot, now int64) (Report, api.Errno) {
	var r Report
	e := guard.Run(func() {
		live := guard.Value(prune.Live(d, now))
		x := d.Index()
		r = look(d, x)
		r.Missing = withoutPlace(x, live)
	})
	return r, e
}

// withoutPlace is those of some blobs for which an index has no place.
func withoutPlace(x *index.Index, blobs []api.ID) []api.ID {
	placed := map[api.ID]struct{}{}
	for id := range x.Blobs() {
		placed[id] = struct{}{}
	}
	var list []api.ID
	for _, id := range blobs {
		if _, is := placed[id]; !is {
			list = append(list, id)
		}
	}
	return list
}

// look is what is wrong with an index's packs; it throws the error.
func look(d *depot.Depot, x *index.Index) Report {
	var r Report
	for id, cold := range x.Packs() {
		switch {
		case !isListed(lister(d, cold), id):
			r.Lost = append(r.Lost, id)
		case !cold && isBad(d, x, id):
			r.Bad = append(r.Bad, id)
		}
	}
	return r
}

// lister is what lists the packs of the cold, or the hot store.
func lister(d *depot.Depot, cold bool) func(prefix string) ([]string, api.Errno) {
	if cold {
		return d.Cold().List
	}
	return d.Hot().List
}

// isListed tells whether a store lists a pack; it throws the error.
func isListed(list func(prefix string) ([]string, api.Errno), id api.ID) bool {
	return len(guard.Value(list(packName(id)))) > 0
}

// isBad tells whether a hot pack isn't as an index tells; it throws the error.
func isBad(d *depot.Depot, x *index.Index, id api.ID) bool {
	b := guard.Value(d.Hot().Get(packName(id)))
	told, _, _ := x.Pack(id)
	list, e := pack.Read(b)
	if sha.Of(b) != id || e != api.OK || !slices.Equal(list, told) {
		return true
	}
	// Asked of each, too, since a pack may be named by its sum, and tell wrong sums of its blobs.
	return slices.ContainsFunc(list, func(entry pack.Entry) bool {
		_, e := pack.Blob(b, entry)
		return e != api.OK
	})
}
