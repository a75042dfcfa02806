package code

import (
	"coldstore/api"
	"coldstore/guard"
)

// Reader is fields that are read.
type Reader struct {
	rest []byte
}

// Decode runs a reading of bytes: its error, or else that of bytes that are left.
func Decode(b []byte, read func(*Reader)) api.Errno {
	r := &Reader{rest: append([]byte(nil), b...)}
	e := guard.Run(func() {
		if read != nil {
			read(r)
		}
	})
	// Asked out here, since what is thrown within may be OK.
	if e == api.OK && r.Left() > 0 {
		return api.ErrMore
	}
	return e
}

// Left is how many bytes are left.
func (r *Reader) Left() int {
	return len(r.rest)
}

// Raw reads bytes as they are.
func (r *Reader) Raw(n int) []byte {
	b := r.peek(max(n, 0))
	r.rest = r.rest[len(b):]
	return b
}

// Num reads a number.
func (r *Reader) Num(size int) uint64 {
	return number(r.Raw(numSize(size)))
}

// Bytes reads how many, and they.
func (r *Reader) Bytes(most int) []byte {
	return r.counted(most)
}

// Text reads a text.
func (r *Reader) Text(most int) string {
	return string(r.counted(most))
}

// counted reads how many, and they, in one go: what is thrown ahead of that reads nothing, the length neither.
func (r *Reader) counted(most int) []byte {
	n := int(number(r.peek(lengthSize)))
	if n > max(most, 0) {
		guard.Must(api.ErrLong)
	}
	return r.Raw(lengthSize + n)[lengthSize:]
}

// peek is the next bytes, which aren't read by it. Its third index ends them, so that what is appended to them isn't written over those to come.
func (r *Reader) peek(n int) []byte {
	if n > len(r.rest) {
		guard.Must(api.ErrShort)
	}
	return r.rest[:n:n]
}

// number is the number of bytes, the lowest one first.
func number(b []byte) uint64 {
	var n uint64
	for i, c := range b {
		n |= uint64(c) << (8 * i)
	}
	return n
}
