package repo_test

import (
	"bytes"
	"maps"
	"slices"
	"strings"
	"testing"

	"coldstore/api"
	"coldstore/chunk"
	"coldstore/cold"
	"coldstore/object"
	"coldstore/repo"
)

// The kinds of commands.
const (
	backups = iota + 1
	lists
	restores
	forgets
	prunes
	tiers
	checks
	rebuilds
	ticks
	faults
	powers
	caches
	jobs
)

// setup is one in which there is room for all: chunks of four bytes, each in a pack of its own; a job takes 3, what is thawed lives for 5, what is cold is young for 10, and a lock is stale behind 100.
func setup() repo.Setup {
	return repo.Setup{
		Hot: 1 << 24, Cold: 1 << 24, Cache: 0, Room: 1 << 20, Jobs: 4, Batch: 4, Target: 1,
		Life: 5, Least: 10, Wait: 3, Stale: 100,
		Cut: chunk.Params{Min: 4, Max: 4, Bits: 20, Width: 4},
	}
}

// world is a repository, and its stores.
type world struct {
	t *testing.T
	*repo.Repo
	hot *object.Store
	ice *cold.Store
}

// made is a world of a new repository.
func made(t *testing.T, s repo.Setup) *world {
	t.Helper()
	r, e := repo.New(s)
	if e != api.OK || r == nil {
		t.Fatal(e)
	}
	hot, ice := r.Parts()
	return &world{t, r, hot, ice}
}

// files is files, by paths and bytes.
func files(parts ...string) []api.File {
	var list []api.File
	for pair := range slices.Chunk(parts, 2) {
		list = append(list, api.File{Path: pair[0], Data: []byte(pair[1])})
	}
	return list
}

// sameFiles tells whether files are the same.
func sameFiles(a, b []api.File) bool {
	return slices.EqualFunc(a, b, func(x, y api.File) bool { return x.Path == y.Path && bytes.Equal(x.Data, y.Data) })
}

// equal tells whether two answers are the same.
func equal(a, b repo.Answer) bool {
	return a.Code == b.Code && a.Done == b.Done && a.N == b.N && slices.Equal(a.Names, b.Names) && sameFiles(a.Files, b.Files)
}

// answers tells what a command must be answered by.
func (w *world) answers(c repo.Cmd, want repo.Answer) {
	w.t.Helper()
	if got := w.Do(c); !equal(got, want) {
		w.t.Errorf("kind %d: %v, not %v", c.Kind, got, want)
	}
}

// ends tells with which error, and nothing else, a command must end.
func (w *world) ends(c repo.Cmd, e api.Errno) {
	w.t.Helper()
	w.answers(c, repo.Answer{Code: e})
}

// asks tells how many operations something must do on both stores.
func (w *world) asks(hot, ice int, f func()) {
	w.t.Helper()
	hot, ice = hot+w.hot.Ops(), ice+w.ice.Ops()
	f()
	if w.hot.Ops() != hot || w.ice.Ops() != ice {
		w.t.Errorf("%d hot operations too many, %d cold ones", w.hot.Ops()-hot, w.ice.Ops()-ice)
	}
}

// keep backs files up, of the host h: the snapshot's name.
func (w *world) keep(list []api.File) string {
	w.t.Helper()
	a := w.Do(repo.Cmd{Kind: backups, Host: "h", Files: list})
	if a.Code != api.OK || len(a.Names) != 1 || !strings.HasPrefix(a.Names[0], "snap/") || a.Done || a.N != 0 || a.Files != nil {
		w.t.Fatalf("%v", a)
	}
	return a.Names[0]
}

// lists tells which snapshots there must be.
func (w *world) lists(names ...string) {
	w.t.Helper()
	w.answers(repo.Cmd{Kind: lists}, repo.Answer{Names: names})
}

// tick lets time go by.
func (w *world) tick(n int64) {
	w.t.Helper()
	now := w.Now()
	w.answers(repo.Cmd{Kind: ticks, N: n}, repo.Answer{})
	if w.Now() != now+n {
		w.t.Errorf("it is %d, not %d", w.Now(), now+n)
	}
}

// freezes moves all packs that may be moved, of which there must be so many.
func (w *world) freezes(n int) {
	w.t.Helper()
	w.answers(repo.Cmd{Kind: tiers}, repo.Answer{N: n})
}

// has tells that a snapshot's files must be had back at once.
func (w *world) has(name string, want []api.File) {
	w.t.Helper()
	w.answers(repo.Cmd{Kind: restores, Name: name}, repo.Answer{Done: true, Files: want})
}

// waits tells that a snapshot's files can't be had back at once.
func (w *world) waits(name string) {
	w.t.Helper()
	w.answers(repo.Cmd{Kind: restores, Name: name}, repo.Answer{})
}

// things is what both stores have.
func (w *world) things() (hot, ice map[string]int) {
	return maps.Collect(w.hot.All()), maps.Collect(w.ice.All())
}

// failing arms a store so that the operation behind so many fails.
func (w *world) failing(ice bool, n int) {
	w.t.Helper()
	w.answers(repo.Cmd{Kind: faults, Flag: ice, Bits: append(make([]bool, n), true)}, repo.Answer{})
}

// whole ends what is armed.
func (w *world) whole() {
	w.t.Helper()
	w.answers(repo.Cmd{Kind: powers, N: -1}, repo.Answer{})
}
