package repo

import (
	"coldstore/backup"
	"coldstore/forget"
	"coldstore/guard"
	"coldstore/prune"
	"coldstore/restore"
	"coldstore/tier"
	"coldstore/verify"
)

// backup keeps files.
func (r *Repo) backup(c Cmd, a *Answer) {
	job := backup.Job{Time: r.now, Host: c.Host, Tag: c.Name, Cut: r.setup.Cut, Target: r.setup.Target}
	a.Names = []string{guard.Value(backup.Run(r.depot, c.Files, job)).Name}
}

// list tells all snapshots.
func (r *Repo) list(c Cmd, a *Answer) {
	for _, kept := range guard.Value(backup.List(&r.hot)) {
		a.Names = append(a.Names, kept.Name)
	}
}

// restore has a snapshot's files back, as far as it can at the time.
func (r *Repo) restore(c Cmd, a *Answer) {
	kept := guard.Value(backup.Load(&r.hot, c.Name))
	if r.begun == nil || r.name != c.Name {
		r.begun, r.name = restore.New(r.depot, kept.Root, r.setup.Room), c.Name
	}
	a.Done = guard.Value(r.begun.Step(r.now, r.setup.Batch, r.setup.Wait))
	a.Files = r.begun.Files()
}

// forget lets snapshots go.
func (r *Repo) forget(c Cmd, a *Answer) {
	names, e := forget.Run(&r.hot, c.Host, c.Keep)
	a.Names = names
	guard.Must(e)
}

// prune lets packs go.
func (r *Repo) prune(c Cmd, a *Answer) {
	a.N = guard.Value(prune.Run(r.depot, r.now, int(c.N), r.setup.Target, c.Flag)).Dropped
}

// tier moves packs to the cold store.
func (r *Repo) tier(c Cmd, a *Answer) {
	a.N = guard.Value(tier.Run(r.depot, c.N, r.now))
}

// check tells whether all is there.
func (r *Repo) check(c Cmd, a *Answer) {
	a.Done = verify.Good(guard.Value(verify.Check(r.depot, r.now)))
}

// rebuild makes the index anew.
func (r *Repo) rebuild(c Cmd, a *Answer) {
	a.N = guard.Value(verify.Mend(r.depot))
}
