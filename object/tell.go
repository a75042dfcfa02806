package object

import (
	"iter"
	"slices"
	"strings"

	"coldstore/api"
)

// The bytes that a name may have, from the first to the last one.
const (
	firstByte = '!'
	lastByte  = '~'
)

// isName tells whether a text is a name.
func isName(s string) bool {
	if len(s) < 1 || len(s) > api.MaxName {
		return false
	}
	for i := range len(s) {
		if s[i] < firstByte || s[i] > lastByte {
			return false
		}
	}
	return true
}

// names is the names that begin so, rising.
func (s *Store) names(prefix string) []string {
	var list []string
	for name := range s.things {
		if strings.HasPrefix(name, prefix) {
			list = append(list, name)
		}
	}
	slices.Sort(list)
	return list
}

// Size is how many bytes all have.
func (s *Store) Size() int {
	return s.size
}

// Len is how many things there are.
func (s *Store) Len() int {
	return len(s.things)
}

// Ops is how many operations there were.
func (s *Store) Ops() int {
	return s.ops
}

// All is all things, by their names.
func (s *Store) All() iter.Seq2[string, int] {
	// Listed ahead, so that what is put and dropped behind the call makes no difference.
	names := s.names("")
	sizes := make([]int, len(names))
	for i, name := range names {
		sizes[i] = len(s.things[name])
	}
	return func(yield func(string, int) bool) {
		for i, name := range names {
			if !yield(name, sizes[i]) {
				return
			}
		}
	}
}
