package cold

// What a thing is.
const (
	frozen = iota
	pending
	thawed
)

// none is what a thing is that isn't there.
const none = -1

// stay is what is known of a thing besides its bytes: since when it is there; whether it has a job that didn't fail, and when that is done.
type stay struct {
	since int64
	asked bool
	ready int64
}

// requested is a stay with a job that is done at a time.
func (t stay) requested(ready int64) stay {
	return stay{since: t.since, asked: true, ready: ready}
}

// failed is a stay without its job.
func (t stay) failed() stay {
	return stay{since: t.since}
}

// state is what a thing is at a time, if what is thawed lives so long.
func (t stay) state(now, life int64) int {
	switch {
	case !t.asked:
		return frozen
	case now < t.ready:
		return pending
	case now < later(t.ready, life):
		return thawed
	}
	return frozen
}

// State is what a thing is.
func (s *Store) State(name string, now int64) int {
	t, there := s.stays[name]
	if !there {
		return none
	}
	return t.state(moment(now), s.life)
}

// Pending is how many are pending.
func (s *Store) Pending(now int64) int {
	n := 0
	for _, t := range s.stays {
		if t.state(moment(now), s.life) == pending {
			n++
		}
	}
	return n
}

// Left is how long a thing is young yet.
func (s *Store) Left(name string, now int64) int64 {
	t, there := s.stays[name]
	if !there {
		return 0
	}
	return max(later(t.since, s.least)-moment(now), 0)
}

// Lost is what was lost by force.
func (s *Store) Lost() int64 {
	return s.lost
}
