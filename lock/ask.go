package lock

import (
	"iter"

	"coldstore/api"
	"coldstore/guard"
	"coldstore/object"
)

// listed is whose locks a store lists, rising; it throws the operation's error.
func listed(s *object.Store) iter.Seq[uint64] {
	names := guard.Value(s.List(dir))
	return func(yield func(uint64) bool) {
		for _, name := range names {
			if who, is := Parse(name); is && !yield(who) {
				return
			}
		}
	}
}

// get is a lock's bytes, and whether it is there; it throws the operation's error, but that it is gone.
func get(s *object.Store, who uint64) ([]byte, bool) {
	b, e := s.Get(Name(who))
	unlessGone(e)
	return b, e == api.OK
}

// unlessGone throws an operation's error, but that a lock is gone.
func unlessGone(e api.Errno) {
	if e != api.ErrNone {
		guard.Must(e)
	}
}
