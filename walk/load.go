package walk

import (
	"coldstore/api"
	"coldstore/guard"
	"coldstore/tree"
)

// loader has blobs by their sums.
type loader struct {
	load func(api.ID) ([]byte, api.Errno)
}

// blob is a blob (of no bytes, without what loads); it throws the error.
func (l loader) blob(id api.ID) []byte {
	if l.load == nil {
		return nil
	}
	return guard.Value(l.load(id))
}

// nodes is a tree's nodes; it throws the error.
func (l loader) nodes(id api.ID) []tree.Node {
	return guard.Value(tree.Decode(l.blob(id)))
}
