package retain

import (
	"slices"

	"coldstore/snap"
)

// order is the places of a list's snapshots, as they stand in the list that is sorted.
func order(list []snap.Snap) []int {
	var places []int
	for at := range list {
		places = append(places, at)
	}
	// Stably, so that of the same ones that which stands first is ahead.
	slices.SortStableFunc(places, func(a, b int) int {
		switch {
		case snap.Less(list[a], list[b]):
			return -1
		case snap.Less(list[b], list[a]):
			return 1
		}
		return 0
	})
	return places
}

// dayOf is the day of a time: both by a day that is above 0, rounded down.
func dayOf(time, day int64) int64 {
	n := time / day
	// A division rounds towards 0, which is up of times below 0.
	if time%day < 0 {
		n--
	}
	return n
}

// lastDays is the last days that have a snapshot, as many as a policy keeps, falling.
func lastDays(list []snap.Snap, p Policy) []int64 {
	days := Days(list, p.Day)
	return days[:min(max(p.Days, 0), len(days))]
}

// isWithin tells whether a time is above the newest one, which it isn't behind, less so much.
func isWithin(time, newest, within int64) bool {
	// The difference as one without a sign, since it may be more than an int64 holds.
	return within > 0 && uint64(newest)-uint64(time) < uint64(within)
}

// isTagged tells whether a snapshot has a tag, of which the empty one is none.
func isTagged(s snap.Snap, tag string) bool {
	return tag != "" && s.Tag == tag
}
