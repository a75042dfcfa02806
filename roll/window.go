package roll

import (
	"math/bits"

	"coldstore/api"
)

// widest is how many bytes a window may have.
const widest = 64

// Window is the last bytes.
type Window struct {
	// A copy, so that the sums hang on nothing that becomes of the table.
	table Table
	width int
	// The last bytes stand in a ring, in which the next one has its place already.
	ring  [widest]byte
	next  int
	count int
	sum   uint32
}

// Window is a window of so many bytes.
func (t *Table) Window(n int) (*Window, api.Errno) {
	if n < 1 || n > widest {
		return nil, api.ErrArg
	}
	return &Window{table: *t, width: n}, api.OK
}

// Push is the sum behind one more byte.
func (w *Window) Push(c byte) uint32 {
	w.sum = w.table.behind(w.sum, c)
	if w.count < w.width {
		w.count++
	} else {
		w.sum ^= bits.RotateLeft32(w.table.At(w.oldest()), w.width)
	}
	w.ring[w.next] = c
	w.next = (w.next + 1) % widest
	return w.sum
}

// oldest is the byte that leaves a full window with the next one.
func (w *Window) oldest() byte {
	return w.ring[(w.next+widest-w.width)%widest]
}

// Sum is the sum.
func (w *Window) Sum() uint32 {
	return w.sum
}

// Reset is as if no byte had come.
func (w *Window) Reset() {
	w.count = 0
	w.sum = 0
}
