package index

import (
	"coldstore/api"
	"coldstore/code"
	"coldstore/guard"
	"coldstore/pack"
	"coldstore/seal"
)

// kind is what an index's bytes are sealed as.
const kind = 73

// What a pack's sum is followed by.
const (
	hotMark  = 0
	coldMark = 1
)

// markSize and numSize are how many bytes a mark, and any other number, has.
const (
	markSize = 1
	numSize  = 4
)

// Encode is its bytes.
func (x *Index) Encode() []byte {
	var w code.Writer
	w.Num(uint64(x.Len()), numSize)
	for id, cold := range x.Packs() {
		w.Raw(id[:])
		w.Num(mark(cold), markSize)
		writeList(&w, x.packs[id].list)
	}
	return seal.Seal(kind, w.Done())
}

// mark is the mark of a cold, or a hot pack.
func mark(cold bool) uint64 {
	if cold {
		return coldMark
	}
	return hotMark
}

// writeList writes a pack's blobs.
func writeList(w *code.Writer, list []pack.Entry) {
	w.Num(uint64(len(list)), numSize)
	for _, e := range list {
		w.Raw(e.ID[:])
		w.Num(uint64(e.Off), numSize)
		w.Num(uint64(e.Len), numSize)
	}
}

// Decode is bytes' index.
func Decode(b []byte) (*Index, api.Errno) {
	body, e := seal.Unseal(kind, b)
	if e != api.OK {
		return nil, e
	}
	var x Index
	if e := code.Decode(body, x.read); e != api.OK {
		return nil, api.ErrForm
	}
	return &x, api.OK
}

// read reads all packs; it throws an error, if they are no index's.
func (x *Index) read(r *code.Reader) {
	var last api.ID
	for range r.Num(numSize) {
		id := readID(r)
		if x.Len() > 0 && compare(id, last) < 0 {
			guard.Must(api.ErrOrder)
		}
		cold := readMark(r)
		guard.Must(x.Put(id, cold, readList(r)))
		last = id
	}
}

// readMark reads whether a pack is cold; it throws an error, if the mark is none.
func readMark(r *code.Reader) bool {
	m := r.Num(markSize)
	if m != hotMark && m != coldMark {
		guard.Must(api.ErrForm)
	}
	return m == coldMark
}

// readList reads a pack's blobs.
func readList(r *code.Reader) []pack.Entry {
	var list []pack.Entry
	for range r.Num(numSize) {
		list = append(list, pack.Entry{ID: readID(r), Off: int(r.Num(numSize)), Len: int(r.Num(numSize))})
	}
	return list
}

// readID reads a sum.
func readID(r *code.Reader) api.ID {
	return api.ID(r.Raw(len(api.ID{})))
}
