package lock

import (
	"coldstore/api"
	"coldstore/code"
	"coldstore/guard"
	"coldstore/seal"
)

// kind is what a lock's bytes are sealed as.
const kind = 76

// What stands behind a lock's since.
const (
	sharedMark = 0
	aloneMark  = 1
)

// sinceSize and markSize are how many bytes a since, and a mark, has.
const (
	sinceSize = 8
	markSize  = 1
)

// held is a lock: since when, and whether for oneself alone.
type held struct {
	since int64
	alone bool
}

// isStale tells whether so long has gone.
func (h held) isStale(now, stale int64) bool {
	return now-h.since >= stale
}

// encode is a lock's bytes.
func (h held) encode() []byte {
	var w code.Writer
	w.Num(uint64(h.since), sinceSize)
	w.Num(mark(h.alone), markSize)
	return seal.Seal(kind, w.Done())
}

// mark is the mark of a lock for oneself alone, or of another one.
func mark(alone bool) uint64 {
	if alone {
		return aloneMark
	}
	return sharedMark
}

// decode is bytes' lock, and true; or false, if they are no lock's.
func decode(b []byte) (held, bool) {
	var h held
	e := guard.Run(func() {
		body := guard.Value(seal.Unseal(kind, b))
		guard.Must(code.Decode(body, h.read))
	})
	if e != api.OK {
		return held{}, false
	}
	return h, true
}

// read reads a lock; it throws an error, if it is none.
func (h *held) read(r *code.Reader) {
	since, m := r.Num(sinceSize), r.Num(markSize)
	// Asked of the bits, since those of a number below 0 are above MaxTime, too.
	if since > api.MaxTime || m != sharedMark && m != aloneMark {
		guard.Must(api.ErrForm)
	}
	*h = held{since: int64(since), alone: m == aloneMark}
}
