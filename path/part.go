package path

import "strings"

// maxPart is how many bytes a part may have.
const maxPart = 40

// signs is what a part may have besides letters and digits.
const signs = "._-"

// isPart tells whether a text is a part.
func isPart(s string) bool {
	if len(s) < 1 || len(s) > maxPart || s == "." || s == ".." {
		return false
	}
	for i := range len(s) {
		if !isPartByte(s[i]) {
			return false
		}
	}
	return true
}

// isPartByte tells whether a part may have a byte.
func isPartByte(c byte) bool {
	return 'a' <= c && c <= 'z' || '0' <= c && c <= '9' || strings.IndexByte(signs, c) >= 0
}
