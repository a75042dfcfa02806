package depot

import (
	"coldstore/api"
	"coldstore/guard"
	"coldstore/pack"
	"coldstore/sha"
)

// Saver saves blobs into packs.
type Saver struct {
	depot  *Depot
	target int
	// seen has the sums of all blobs that were added.
	seen    map[api.ID]struct{}
	pack    pack.Builder
	entries []pack.Entry
	// stored is the packs that were put, and aren't committed yet.
	stored []stored
}

// stored is a pack in the hot store: its sum, and its blobs.
type stored struct {
	id   api.ID
	list []pack.Entry
}

// Saver is what saves blobs into packs.
func (d *Depot) Saver(target int) *Saver {
	return &Saver{depot: d, target: max(target, 1), seen: map[api.ID]struct{}{}}
}

// Add saves a blob.
func (s *Saver) Add(blob []byte) (api.ID, api.Errno) {
	id := sha.Of(blob)
	if s.has(id) {
		return id, api.OK
	}
	return id, guard.Run(func() {
		s.putFilled()
		s.add(blob)
		s.putFilled()
	})
}

// has tells whether a blob is saved.
func (s *Saver) has(id api.ID) bool {
	if _, seen := s.seen[id]; seen {
		return true
	}
	_, found := s.depot.index.Find(id)
	return found
}

// add adds a blob to the pack, or to a new one, if the pack has no room for it; it throws the error.
func (s *Saver) add(blob []byte) {
	added, e := s.pack.Add(blob)
	if e == api.ErrFull {
		s.put()
		added, e = s.pack.Add(blob)
	}
	guard.Must(e)
	s.entries = append(s.entries, added)
	s.seen[added.ID] = struct{}{}
}

// putFilled puts the pack, if it has as many bytes as it should have. One without blobs isn't put, however few bytes that is.
func (s *Saver) putFilled() {
	if s.pack.Len() > 0 && s.pack.Size() >= s.target {
		s.put()
	}
}

// put puts the pack into the hot store, and begins a new one; it throws the error.
func (s *Saver) put() {
	b := s.pack.Done()
	id := sha.Of(b)
	guard.Must(s.depot.hot.Put(packName(id), b))
	s.stored = append(s.stored, stored{id: id, list: s.entries})
	s.pack, s.entries = pack.Builder{}, nil
}

// Done puts what isn't put yet, and commits the index.
func (s *Saver) Done() api.Errno {
	return guard.Run(func() {
		if s.pack.Len() > 0 {
			s.put()
		}
		if len(s.stored) > 0 {
			s.commit()
		}
	})
}

// commit commits the index with the packs that were put; it throws the error.
func (s *Saver) commit() {
	x := s.depot.Index()
	for _, p := range s.stored {
		if e := x.Put(p.id, false, p.list); e != api.ErrTwice {
			guard.Must(e)
		}
	}
	guard.Must(s.depot.Commit(x))
	s.stored = nil
}
