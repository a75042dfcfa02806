package cold

import (
	"math"

	"coldstore/api"
)

// moment is what a time counts as.
func moment(t int64) int64 {
	return min(max(t, 0), api.MaxTime)
}

// later is the time that is so long behind another one.
func later(t, long int64) int64 {
	// Both are within their bounds ahead of the sum, so that it doesn't wrap round.
	return moment(moment(t) + moment(long))
}

// added is a sum of two spans, or the greatest number that there is, if the sum is above it.
func added(a, b int64) int64 {
	return a + min(b, math.MaxInt64-a)
}
