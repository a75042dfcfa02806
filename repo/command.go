package repo

import (
	"coldstore/api"
	"coldstore/depot"
	"coldstore/guard"
	"coldstore/lock"
	"coldstore/tier"
)

// command does a command by somebody.
func (r *Repo) command(c Cmd) Answer {
	var a Answer
	crashed := r.crashes(func() {
		a.Code = guard.Run(func() {
			r.open()
			r.take(c)
			guard.Must(guard.Finally(func() { deeds()[c.Kind](r, c, &a) }, func() { r.free(c) }))
		})
	})
	switch {
	case crashed:
		r.restart()
		return Answer{Code: api.ErrCrash}
	case a.Code != api.OK && c.Kind == kindForget:
		// What went is gone, whatever failed behind it.
		return Answer{Code: a.Code, Names: a.Names}
	case a.Code != api.OK:
		return Answer{Code: a.Code}
	}
	return a
}

// crashes tells whether the power goes, while something is done.
func (r *Repo) crashes(do func()) (crashed bool) {
	defer func() {
		// The stores, which Parts tells, may have been armed with a fuse other than the own one, whose Catch lets that go on.
		switch thrown := recover().(type) {
		case nil:
		case error:
			panic(thrown)
		default:
			crashed = true
		}
	}()
	return r.fuse.Catch(do)
}

// restart is what there is behind the power's going: what the stores have, and the time.
func (r *Repo) restart() {
	r.depot, r.begun = nil, nil
	r.arm(guard.NewFuse(forever))
}

// arm sets the fuse of both stores, which have no faults to come then.
func (r *Repo) arm(fuse *guard.Fuse) {
	r.fuse = fuse
	r.hot.Arm(fuse, nil)
	r.cold.Arm(fuse, nil)
}

// open opens a depot, if none is open; it throws the error.
func (r *Repo) open() {
	if r.depot != nil {
		return
	}
	d := guard.Value(depot.Open(&r.hot, &r.cold, r.setup.Cache))
	_, e := tier.Recover(d, r.now)
	guard.Must(e)
	r.depot = d
}

// take takes the lock for a command; it throws the error.
func (r *Repo) take(c Cmd) {
	guard.Must(lock.Take(&r.hot, c.Who, isAlone(c.Kind), r.now, r.setup.Stale))
	if endsRestore(c.Kind) {
		r.begun = nil
	}
}

// free lets a command's lock go; it throws the error. One that is gone already is let go, too.
func (r *Repo) free(c Cmd) {
	if e := lock.Free(&r.hot, c.Who); e != api.ErrNone {
		guard.Must(e)
	}
}
