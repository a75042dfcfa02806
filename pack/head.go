package pack

import (
	"iter"

	"coldstore/api"
	"coldstore/code"
)

// kind is what a head is sealed as.
const kind = 80

// numSize is how many bytes each number of a pack has, entrySize how many the head has for each blob, bareSize how many a pack of no blobs has: how many blobs, what sealing adds to it, and how many bytes the head has.
const (
	numSize   = 4
	entrySize = len(api.ID{}) + numSize
	bareSize  = numSize + 5 + numSize
)

// head is which blobs a pack has. The zero head has none.
type head struct {
	list []Entry
	sums map[api.ID]struct{}
	end  int // of all blobs
}

// add is one more blob, of a sum, of n bytes; nothing is turned with an error.
func (h *head) add(id api.ID, n int) (Entry, api.Errno) {
	_, twice := h.sums[id]
	switch {
	case n > api.MaxBlob:
		return Entry{}, api.ErrLong
	case len(h.list) == api.MaxBlobs:
		return Entry{}, api.ErrMany
	case twice:
		return Entry{}, api.ErrTwice
	case h.size()+n+entrySize > api.MaxObject:
		return Entry{}, api.ErrFull
	}
	if h.sums == nil {
		h.sums = map[api.ID]struct{}{}
	}
	e := Entry{ID: id, Off: h.end, Len: n}
	h.sums[id] = struct{}{}
	h.list = append(h.list, e)
	h.end += n
	return e, api.OK
}

// size is how many bytes a pack of the head has.
func (h *head) size() int {
	return h.end + len(h.list)*entrySize + bareSize
}

// encode is the head's bytes, ahead of being sealed.
func (h *head) encode() []byte {
	var w code.Writer
	w.Num(uint64(len(h.list)), numSize)
	for _, e := range h.list {
		w.Raw(e.ID[:])
		w.Num(uint64(e.Len), numSize)
	}
	return w.Done()
}

// told is each blob's sum, and how many bytes it has, as a head's bytes tell them; they are read on the way.
func told(r *code.Reader) iter.Seq2[api.ID, int] {
	return func(yield func(api.ID, int) bool) {
		for range r.Num(numSize) {
			id := api.ID(r.Raw(len(api.ID{})))
			if !yield(id, int(r.Num(numSize))) {
				return
			}
		}
	}
}

// readHead is the head of bytes that were sealed: a builder's, or else it is none.
func readHead(b []byte) (head, bool) {
	var h head
	wrong := api.OK
	e := code.Decode(b, func(r *code.Reader) {
		for id, n := range told(r) {
			// Asked for each, so that no more is read than a builder takes.
			if _, wrong = h.add(id, n); wrong != api.OK {
				return
			}
		}
	})
	return h, e == api.OK && wrong == api.OK
}
