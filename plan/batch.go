package plan

import "coldstore/api"

// load is how many items, and how many bytes together, a batch has.
type load struct{ items, bytes int }

// loadOf is the load of a batch of items.
func loadOf(items []Item) load {
	var l load
	for _, i := range items {
		l = l.with(i)
	}
	return l
}

// with is a load with one more item.
func (l load) with(i Item) load {
	return load{items: l.items + 1, bytes: l.bytes + i.Size}
}

// takes tells whether there is room for one more item, if a batch has at most so many, and at most so many bytes.
func (l load) takes(i Item, jobs, room int) bool {
	// Held against what is left, since a sum might wrap round.
	return l.items < jobs && i.Size <= room-l.bytes
}

// Cut is items in order, by batches.
func Cut(items []Item, jobs, room int) ([][]Item, api.Errno) {
	return share(items, jobs, room, func(begun int) int { return max(begun-1, 0) })
}

// Fill is items, each in the first batch that has room for it.
func Fill(items []Item, jobs, room int) ([][]Item, api.Errno) {
	return share(items, jobs, room, func(int) int { return 0 })
}

// share is items, each in the first batch that has room for it, from that one on where there may be room, which is told by how many were begun.
func share(items []Item, jobs, room int, from func(begun int) int) ([][]Item, api.Errno) {
	if e := check(items, jobs, room); e != api.OK {
		return nil, e
	}
	var batches [][]Item
	var loads []load
	for _, i := range items {
		at := from(len(loads))
		for at < len(loads) && !loads[at].takes(i, jobs, room) {
			at++
		}
		if at == len(loads) {
			batches, loads = append(batches, nil), append(loads, load{})
		}
		batches[at], loads[at] = append(batches[at], i), loads[at].with(i)
	}
	return batches, api.OK
}

// check tells what is wrong with items, or with the bounds of batches.
func check(items []Item, jobs, room int) api.Errno {
	switch {
	case jobs < 1 || room < 0:
		return api.ErrArg
	case len(items) > api.MaxObjects:
		return api.ErrMany
	}
	for _, i := range items {
		switch {
		case i.Size < 0:
			return api.ErrRange
		case i.Size > room:
			return api.ErrLong
		}
	}
	return api.OK
}
