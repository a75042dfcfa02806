package build

import (
	"slices"

	"coldstore/api"
	"coldstore/guard"
	"coldstore/path"
	"coldstore/tree"
)

// builder adds files' trees.
type builder struct {
	cut func([]byte) [][]byte
	add func([]byte) (api.ID, api.Errno)
	// left is the files that weren't added yet.
	left []api.File
}

// dir adds a directory, with the next files as far as they are in it: its tree's sum; it throws the error.
func (b *builder) dir(name string) api.ID {
	var list []tree.Node
	for len(b.left) > 0 && path.Within(b.left[0].Path, name) {
		list = append(list, b.node(name))
	}
	return b.keep(guard.Value(tree.Encode(list)))
}

// node adds what a directory has next, a file or a directory in it: its node; it throws the error.
func (b *builder) node(dir string) tree.Node {
	next := b.left[0]
	name := child(dir, next.Path)
	if name != next.Path {
		return tree.Node{Name: path.Base(name), Dir: true, Sub: b.dir(name)}
	}
	b.left = b.left[1:]
	return b.file(next)
}

// child is what stands in a directory of a path that is in it: the path, or a directory that has it.
func child(dir, p string) string {
	for path.Parent(p) != dir {
		p = path.Parent(p)
	}
	return p
}

// file adds a file's chunks: its node; it throws the error.
func (b *builder) file(f api.File) tree.Node {
	n := tree.Node{Name: path.Base(f.Path), Size: int64(len(f.Data))}
	for _, chunk := range b.chunks(f.Data) {
		n.Parts = append(n.Parts, b.keep(chunk))
	}
	return n
}

// chunks is what is made of a file's bytes: nothing, without what cuts.
func (b *builder) chunks(data []byte) [][]byte {
	if b.cut == nil {
		return nil
	}
	// A copy, so that what cuts may hand on pieces of it, and what adds may keep these.
	return b.cut(slices.Clone(data))
}

// keep adds a blob: its sum (none, without what adds); it throws the error.
func (b *builder) keep(blob []byte) api.ID {
	if b.add == nil {
		return api.ID{}
	}
	return guard.Value(b.add(blob))
}
