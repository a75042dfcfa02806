package sha

import (
	"bytes"
	"strings"

	"coldstore/api"
)

// digits is the digits to the base 16.
const digits = "0123456789abcdef"

// Text is a sum's digits.
func Text(id api.ID) string {
	text := make([]byte, 0, 2*len(id))
	for _, b := range id {
		text = append(text, digits[b>>4], digits[b&15])
	}
	return string(text)
}

// Parse is digits' sum.
func Parse(s string) (api.ID, api.Errno) {
	var id api.ID
	if len(s) != 2*len(id) {
		return api.ID{}, api.ErrForm
	}
	for i := range id {
		high, low := digit(s[2*i]), digit(s[2*i+1])
		if high < 0 || low < 0 {
			return api.ID{}, api.ErrForm
		}
		id[i] = byte(high<<4 | low)
	}
	return id, api.OK
}

// digit is the number of a digit, below 0 of what is none.
func digit(c byte) int {
	return strings.IndexByte(digits, c)
}

// Less tells whether one sum is less.
func Less(a, b api.ID) bool {
	return bytes.Compare(a[:], b[:]) < 0
}
