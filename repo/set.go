package repo

import (
	"coldstore/api"
	"coldstore/guard"
)

// forever is what a fuse is made for that never blows.
const forever = -1

// tick lets time go by.
func (r *Repo) tick(c Cmd, a *Answer) {
	// Within its bounds ahead of the sum, so that it doesn't wrap round.
	long := min(max(c.N, 0), api.MaxTime)
	r.now = min(r.now+long, api.MaxTime)
}

// faults sets one store's faults to come; the power goes as it would.
func (r *Repo) faults(c Cmd, a *Answer) {
	if c.Flag {
		r.cold.Arm(r.fuse, c.Bits)
		return
	}
	r.hot.Arm(r.fuse, c.Bits)
}

// power sets when the power goes.
func (r *Repo) power(c Cmd, a *Answer) {
	r.arm(guard.NewFuse(int(min(max(c.N, forever), api.MaxSteps))))
}

// spoil spoils the cache of the depot that is open.
func (r *Repo) spoil(c Cmd, a *Answer) {
	if r.depot == nil {
		return
	}
	cache := r.depot.Cache()
	if c.Flag {
		cache.Wipe()
		return
	}
	for id := range cache.All() {
		cache.Spoil(id, int(c.N))
	}
}

// fail lets a cold thing's job fail.
func (r *Repo) fail(c Cmd, a *Answer) {
	a.Done = r.cold.Fail(c.Name, r.now)
}
