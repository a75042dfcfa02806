// Package code is layer 2: see shared/doc/02-code.md.
package code

// lengthSize is how many bytes tell how many others there are.
const lengthSize = 4

// numSize is how many bytes a number has that is asked to have so many.
func numSize(size int) int {
	return min(max(size, 1), 8)
}
