package seal

import (
	"bytes"

	"coldstore/api"
	"coldstore/code"
)

// Chain is rows, one behind the other.
func Chain(list [][]byte) []byte {
	var w code.Writer
	for _, row := range list {
		w.Raw(link(row))
	}
	return w.Done()
}

// link is a row of a chain: how many bytes it has, they, and the sum of all that.
func link(row []byte) []byte {
	var w code.Writer
	w.Bytes(row)
	return summed(&w)
}

// Unchain is the rows that are whole, and what is left.
func Unchain(b []byte) ([][]byte, []byte) {
	var list [][]byte
	rest := b
	// How the reading ends isn't asked: the rows ahead of what is wrong are whole.
	code.Decode(b, func(r *code.Reader) {
		for r.Left() > 0 {
			row := r.Bytes(r.Left())
			n := len(rest) - r.Left()
			want(uint32(r.Num(sumSize)) == Sum(rest[:n]), api.ErrSum)
			list = append(list, row)
			rest = rest[n+sumSize:]
		}
	})
	return list, bytes.Clone(rest)
}
