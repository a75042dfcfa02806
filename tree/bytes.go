package tree

import (
	"coldstore/api"
	"coldstore/code"
	"coldstore/guard"
	"coldstore/seal"
)

// kind is what a list's bytes are sealed as.
const kind = 84

// What a node's bytes begin with.
const (
	fileMark = 0
	dirMark  = 1
)

// markSize, countSize and sizeSize are how many bytes a mark, a number of nodes or Parts, and a Size, has.
const (
	markSize  = 1
	countSize = 4
	sizeSize  = 8
)

// Encode is a list's bytes.
func Encode(list []Node) ([]byte, api.Errno) {
	if e := Check(list); e != api.OK {
		return nil, e
	}
	var w code.Writer
	w.Num(uint64(len(list)), countSize)
	for _, n := range list {
		write(&w, n)
	}
	return seal.Seal(kind, w.Done()), api.OK
}

// write writes a node.
func write(w *code.Writer, n Node) {
	if n.Dir {
		w.Num(dirMark, markSize)
		w.Text(n.Name)
		w.Raw(n.Sub[:])
		return
	}
	w.Num(fileMark, markSize)
	w.Text(n.Name)
	w.Num(uint64(n.Size), sizeSize)
	w.Num(uint64(len(n.Parts)), countSize)
	for _, id := range n.Parts {
		w.Raw(id[:])
	}
}

// Decode is bytes' list.
func Decode(b []byte) ([]Node, api.Errno) {
	body, e := seal.Unseal(kind, b)
	if e != api.OK {
		return nil, e
	}
	var list []Node
	e = code.Decode(body, func(r *code.Reader) {
		for range readCount(r, api.MaxFiles) {
			list = append(list, readNode(r))
		}
	})
	// Fields that are read may be no right list's yet.
	if e != api.OK || Check(list) != api.OK {
		return nil, api.ErrForm
	}
	return list, api.OK
}

// readCount reads how many there are; it throws an error, if these are more than may be.
func readCount(r *code.Reader, most int) int {
	n := int(r.Num(countSize))
	// Asked here, too, so that no more is read than a right list may have.
	if n > most {
		guard.Must(api.ErrMany)
	}
	return n
}

// readNode reads a node; it throws an error, if its mark is none.
func readNode(r *code.Reader) Node {
	mark := r.Num(markSize)
	n := Node{Name: r.Text(api.MaxPath), Dir: mark == dirMark}
	switch mark {
	case dirMark:
		n.Sub = readID(r)
	case fileMark:
		n.Size = int64(r.Num(sizeSize))
		for range readCount(r, api.MaxBlobs) {
			n.Parts = append(n.Parts, readID(r))
		}
	default:
		guard.Must(api.ErrForm)
	}
	return n
}

// readID reads a sum.
func readID(r *code.Reader) api.ID {
	return api.ID(r.Raw(len(api.ID{})))
}
