package pack

import (
	"bytes"
	"iter"

	"coldstore/api"
	"coldstore/code"
	"coldstore/seal"
	"coldstore/sha"
)

// Read is a pack's blobs.
func Read(b []byte) ([]Entry, api.Errno) {
	sealed, e := sealedHead(b)
	if e != api.OK {
		return nil, e
	}
	body, e := seal.Unseal(kind, sealed)
	if e != api.OK {
		return nil, e
	}
	h, formed := readHead(body)
	// Ahead of the head stand the blobs alone.
	if !formed || h.size() != len(b) {
		return nil, api.ErrForm
	}
	return h.list, api.OK
}

// sealedHead is a head, as it stands in a pack's bytes.
func sealedHead(b []byte) ([]byte, api.Errno) {
	end := max(len(b)-numSize, 0)
	n := 0
	e := code.Decode(b[end:], func(r *code.Reader) { n = int(r.Num(numSize)) })
	if e != api.OK {
		return nil, e
	}
	if n > end {
		return nil, api.ErrShort
	}
	return b[end-n : end], api.OK
}

// Blob is the bytes of a blob.
func Blob(b []byte, e Entry) ([]byte, api.Errno) {
	// Not Off and Len together, since these may be too much for an int.
	if e.Off < 0 || e.Len < 0 || e.Len > len(b)-e.Off {
		return nil, api.ErrRange
	}
	blob := b[e.Off : e.Off+e.Len]
	if sha.Of(blob) != e.ID {
		return nil, api.ErrHash
	}
	return bytes.Clone(blob), api.OK
}

// All is all blobs whose sums are right.
func All(b []byte) iter.Seq2[Entry, []byte] {
	// A copy, since what was handed in may be written over ahead of the going through.
	own := bytes.Clone(b)
	// Of what is no pack the list is empty.
	list, _ := Read(own)
	return func(yield func(Entry, []byte) bool) {
		for _, e := range list {
			if blob, wrong := Blob(own, e); wrong == api.OK && !yield(e, blob) {
				return
			}
		}
	}
}
