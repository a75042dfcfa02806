package lock

import (
	"strconv"
	"strings"
)

// dir is what a lock's name begins with.
const dir = "lock/"

// base is what the digits are to, digits how many a number has.
const (
	base   = 16
	digits = 16
)

// Name is a lock's name.
func Name(who uint64) string {
	text := strconv.FormatUint(who, base)
	return dir + strings.Repeat("0", digits-len(text)) + text
}

// Parse is a name's number.
func Parse(name string) (uint64, bool) {
	who, err := strconv.ParseUint(strings.TrimPrefix(name, dir), base, 64)
	// A number has one name alone, so that of digits in another form there is none.
	if err != nil || Name(who) != name {
		return 0, false
	}
	return who, true
}
