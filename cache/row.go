package cache

import "coldstore/api"

// kept is a blob that is kept, between those that were used ahead of it and behind it. Its bytes may be of another sum by now.
type kept struct {
	id             api.ID
	data           []byte
	earlier, later *kept
}

// row is blobs, that used longest ago first. The zero row has none.
type row struct {
	first, last *kept
}

// add adds a blob behind all others.
func (r *row) add(k *kept) {
	k.earlier, k.later = r.last, nil
	if r.last == nil {
		r.first = k
	} else {
		r.last.later = k
	}
	r.last = k
}

// remove takes a blob out of the row.
func (r *row) remove(k *kept) {
	if k.earlier == nil {
		r.first = k.later
	} else {
		k.earlier.later = k.later
	}
	if k.later == nil {
		r.last = k.earlier
	} else {
		k.later.earlier = k.earlier
	}
}
