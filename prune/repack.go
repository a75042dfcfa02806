package prune

import (
	"coldstore/api"
	"coldstore/depot"
	"coldstore/guard"
	"coldstore/pack"
	"coldstore/sha"
)

// packer packs blobs into new packs. A depot's saver would leave out each of them, since the index has it.
type packer struct {
	depot   *depot.Depot
	target  int
	pack    pack.Builder
	entries []pack.Entry
	// stored is the packs that were put, blobs how many were added.
	stored []stored
	blobs  int
}

// stored is a pack in the hot store: its sum, and its blobs.
type stored struct {
	id   api.ID
	list []pack.Entry
}

// repack packs blobs of a depot anew, into packs of at least so many bytes; it throws the error.
func repack(d *depot.Depot, ids []api.ID, now int64, target int) *packer {
	p := &packer{depot: d, target: target}
	for _, id := range ids {
		p.add(guard.Value(d.Load(id, now)))
	}
	p.put()
	return p
}

// add adds a blob to the pack, or to the next one, if the pack has no room for it, and puts the pack, if it has as many bytes as it should have; it throws the error.
func (p *packer) add(blob []byte) {
	added, e := p.pack.Add(blob)
	if e == api.ErrFull {
		p.put()
		added, e = p.pack.Add(blob)
	}
	guard.Must(e)
	p.entries = append(p.entries, added)
	p.blobs++
	if p.pack.Size() >= p.target {
		p.put()
	}
}

// put puts the pack, if it has blobs, into the hot store, and begins the next one; it throws the error.
func (p *packer) put() {
	if p.pack.Len() == 0 {
		return
	}
	b := p.pack.Done()
	id := sha.Of(b)
	guard.Must(p.depot.Hot().Put(packName(id), b))
	p.stored = append(p.stored, stored{id: id, list: p.entries})
	p.pack, p.entries = pack.Builder{}, nil
}
