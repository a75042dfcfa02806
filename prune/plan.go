package prune

import (
	"coldstore/api"
	"coldstore/index"
	"coldstore/pack"
)

// whole is what waste is told of.
const whole = 100

// Plan is what becomes of packs.
type Plan struct{ Keep, Repack, Drop []api.ID }

// Make is what becomes of an index's packs.
func Make(x *index.Index, live []api.ID, waste int, young func(api.ID) bool) Plan {
	var p Plan
	lists := liveIn(x, live)
	for id, cold := range x.Packs() {
		own := lists[id]
		switch {
		case cold && len(own) == 0 && young != nil && young(id):
			p.Keep = append(p.Keep, id)
		case len(own) == 0:
			p.Drop = append(p.Drop, id)
		case cold || isWithin(x, id, own, waste):
			p.Keep = append(p.Keep, id)
		default:
			p.Repack = append(p.Repack, id)
		}
	}
	return p
}

// isWithin tells whether no more of a pack is wasted than may be, if these are its live blobs.
func isWithin(x *index.Index, id api.ID, own []pack.Entry, waste int) bool {
	list, _, _ := x.Pack(id)
	all := size(list)
	// Asked of waste itself, too: of no bytes none are wasted, however few may be.
	return waste >= 0 && (all-size(own))*whole <= all*min(waste, whole)
}

// size is how many bytes blobs have.
func size(list []pack.Entry) int {
	n := 0
	for _, e := range list {
		n += e.Len
	}
	return n
}
