package snap

import (
	"coldstore/api"
	"coldstore/code"
	"coldstore/seal"
	"coldstore/sha"
)

// kind is what a snapshot's bytes are sealed as.
const kind = 83

// dir is what a snapshot's name in a store begins with.
const dir = "snap/"

// numSize is how many bytes a Time, and Bytes, has; filesSize is how many Files has.
const (
	numSize   = 8
	filesSize = 4
)

// Encode is a snapshot's bytes.
func Encode(s Snap) ([]byte, api.Errno) {
	if e := Check(s); e != api.OK {
		return nil, e
	}
	var w code.Writer
	w.Num(uint64(s.Time), numSize)
	w.Text(s.Host)
	w.Text(s.Tag)
	w.Raw(s.Root[:])
	w.Num(uint64(s.Files), filesSize)
	w.Num(uint64(s.Bytes), numSize)
	return seal.Seal(kind, w.Done()), api.OK
}

// Decode is bytes' snapshot.
func Decode(b []byte) (Snap, api.Errno) {
	body, e := seal.Unseal(kind, b)
	if e != api.OK {
		return Snap{}, e
	}
	var s Snap
	e = code.Decode(body, func(r *code.Reader) { s = read(r) })
	// Fields that are read may be no right snapshot's yet.
	if e != api.OK || Check(s) != api.OK {
		return Snap{}, api.ErrForm
	}
	return s, api.OK
}

// read reads a snapshot's fields.
func read(r *code.Reader) Snap {
	return Snap{
		Time:  int64(r.Num(numSize)),
		Host:  r.Text(api.MaxPath),
		Tag:   r.Text(api.MaxPath),
		Root:  api.ID(r.Raw(len(api.ID{}))),
		Files: int(r.Num(filesSize)),
		Bytes: int64(r.Num(numSize)),
	}
}

// Name is the name of bytes in a store.
func Name(b []byte) string {
	return dir + sha.Text(sha.Of(b))
}
