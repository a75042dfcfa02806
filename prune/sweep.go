package prune

import (
	"coldstore/api"
	"coldstore/depot"
	"coldstore/guard"
	"coldstore/index"
	"coldstore/sha"
)

// packDir is what a pack's name begins with.
const packDir = "pack/"

// packName is a pack's name by its sum.
func packName(id api.ID) string {
	return packDir + sha.Text(id)
}

// sweep lets what is no pack's of an index go from both stores: how many names went. It throws the error.
func sweep(d *depot.Depot, x *index.Index, now int64, force bool) int {
	named := map[string]struct{}{}
	for id := range x.Packs() {
		named[packName(id)] = struct{}{}
	}
	hot := letGo(guard.Value(d.Hot().List(packDir)), named, d.Hot().Drop)
	byForce := func(name string) api.Errno { return d.Cold().Drop(name, now, force) }
	return hot + letGo(guard.Value(d.Cold().List(packDir)), named, byForce)
}

// letGo lets each of these names go by drop, but those named, and those of young things: how many went. It throws the error.
func letGo(names []string, named map[string]struct{}, drop func(string) api.Errno) int {
	n := 0
	for _, name := range names {
		if _, stays := named[name]; stays {
			continue
		}
		switch e := drop(name); e {
		case api.OK:
			n++
		case api.ErrYoung:
			// It goes with a later sweep.
		default:
			guard.Must(e)
		}
	}
	return n
}
