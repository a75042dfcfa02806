package verify

import (
	"strings"

	"coldstore/api"
	"coldstore/depot"
	"coldstore/guard"
	"coldstore/index"
	"coldstore/pack"
	"coldstore/sha"
)

// Rebuild is the index that packs tell.
func Rebuild(d *depot.Depot) (*index.Index, api.Errno) {
	var x index.Index
	e := guard.Run(func() {
		addHot(&x, d)
		addCold(&x, d)
	})
	if e != api.OK {
		return nil, e
	}
	return &x, api.OK
}

// Mend makes the index that packs tell the one that holds.
func Mend(d *depot.Depot) (int, api.Errno) {
	n := 0
	e := guard.Run(func() {
		x := guard.Value(Rebuild(d))
		guard.Must(d.Commit(x))
		n = x.Len()
	})
	return n, e
}

// addHot lets an index have the packs of the hot store, as these tell themselves; it throws the error.
func addHot(x *index.Index, d *depot.Depot) {
	for _, name := range guard.Value(d.Hot().List(packDir)) {
		b := guard.Value(d.Hot().Get(name))
		id, isPack := parse(name)
		if !isPack || sha.Of(b) != id {
			continue
		}
		if list, e := pack.Read(b); e == api.OK {
			guard.Must(x.Put(id, false, list))
		}
	}
}

// addCold lets an index have the packs of the cold store, as the depot's own tells them, since these can't be read; it throws the error.
func addCold(x *index.Index, d *depot.Depot) {
	own := d.Index()
	for _, name := range guard.Value(d.Cold().List(packDir)) {
		id, isPack := parse(name)
		list, _, known := own.Pack(id)
		if !isPack || !known {
			continue
		}
		// What is a hot one already stays one.
		if e := x.Put(id, true, list); e != api.ErrTwice {
			guard.Must(e)
		}
	}
}

// parse is the sum that a pack's name tells; false: it is none's.
func parse(name string) (api.ID, bool) {
	id, e := sha.Parse(strings.TrimPrefix(name, packDir))
	return id, e == api.OK
}
