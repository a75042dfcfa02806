package walk

import (
	"coldstore/api"
	"coldstore/guard"
	"coldstore/path"
	"coldstore/tree"
)

// reader reads a tree's files.
type reader struct {
	loader
	files []api.File
	// trees is how many trees it came to.
	trees int
}

// dir reads all files in a directory; it throws the error.
func (r *reader) dir(name string, id api.ID) {
	if r.trees == api.MaxBlobs {
		guard.Must(api.ErrMany)
	}
	r.trees++
	for _, n := range r.nodes(id) {
		p := path.Join(name, n.Name)
		guard.Must(path.Check(p))
		if n.Dir {
			r.dir(p, n.Sub)
		} else {
			r.file(p, n)
		}
	}
}

// file reads a file; it throws the error.
func (r *reader) file(name string, n tree.Node) {
	if len(r.files) == api.MaxFiles {
		guard.Must(api.ErrMany)
	}
	var data []byte
	for _, id := range n.Parts {
		data = append(data, r.blob(id)...)
	}
	if int64(len(data)) != n.Size {
		guard.Must(api.ErrForm)
	}
	r.files = append(r.files, api.File{Path: name, Data: data})
}
