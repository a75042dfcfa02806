package tier

import (
	"coldstore/api"
	"coldstore/backup"
	"coldstore/depot"
	"coldstore/guard"
	"coldstore/pack"
	"coldstore/tree"
	"coldstore/walk"
)

// Find is the packs that may be moved.
func Find(d *depot.Depot, age, now int64) ([]api.ID, api.Errno) {
	var found []api.ID
	e := guard.Run(func() {
		times := youngest(d, now)
		latest := min(max(now, 0), api.MaxTime) - max(age, 0)
		x := d.Index()
		for id, cold := range x.Packs() {
			if cold {
				continue
			}
			list, _, _ := x.Pack(id)
			if isOld(list, times, latest) && !hasTree(d, id, list) {
				found = append(found, id)
			}
		}
	})
	if e != api.OK {
		return nil, e
	}
	return found, api.OK
}

// youngest is the time of the last snapshot that has it, of each live blob; it throws the error.
func youngest(d *depot.Depot, now int64) map[api.ID]int64 {
	times := map[api.ID]int64{}
	load := func(id api.ID) ([]byte, api.Errno) { return d.Load(id, now) }
	// They are sorted by their times.
	for _, n := range guard.Value(backup.List(d.Hot())) {
		for _, id := range guard.Value(walk.Sums(n.Snap.Root, load)) {
			times[id] = n.Snap.Time
		}
	}
	return times
}

// isOld tells whether one of these blobs is live, and none has a time behind the latest one that may be.
func isOld(list []pack.Entry, times map[api.ID]int64, latest int64) bool {
	live := false
	for _, e := range list {
		time, is := times[e.ID]
		if is && time > latest {
			return false
		}
		live = live || is
	}
	return live
}

// hasTree tells whether one of a hot pack's blobs is a tree's bytes; it throws the error.
func hasTree(d *depot.Depot, id api.ID, list []pack.Entry) bool {
	b := guard.Value(d.Hot().Get(packName(id)))
	for _, entry := range list {
		if _, e := tree.Decode(guard.Value(pack.Blob(b, entry))); e == api.OK {
			return true
		}
	}
	return false
}
