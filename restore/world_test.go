package restore_test

import (
	"bytes"
	"slices"
	"testing"

	"coldstore/api"
	"coldstore/cold"
	"coldstore/depot"
	"coldstore/guard"
	"coldstore/object"
	"coldstore/pack"
	"coldstore/restore"
	"coldstore/sha"
	"coldstore/tree"
)

// world is two stores, and a depot of them.
type world struct {
	t   *testing.T
	hot *object.Store
	ice *cold.Store
	*depot.Depot
}

// worldOf is a world of stores that have nothing: of the cold one so many jobs may be at once, and what is thawed lives so long; the depot's cache has a limit.
func worldOf(t *testing.T, jobs int, life int64, limit int) *world {
	t.Helper()
	hot, e := object.New(1 << 26)
	ice, f := cold.New(1<<26, jobs, life, 0)
	d, g := depot.Open(hot, ice, limit)
	if e != api.OK || f != api.OK || g != api.OK {
		t.Fatal(e, f, g)
	}
	return &world{t, hot, ice, d}
}

// empty is a world of many jobs, in which what is thawed lives for 5, without a cache.
func empty(t *testing.T) *world {
	t.Helper()
	return worldOf(t, 64, 5, 0)
}

// must ends the test, if there is an error.
func (w *world) must(e api.Errno) {
	w.t.Helper()
	if e != api.OK {
		w.t.Fatal(e)
	}
}

// named is a pack's name.
func named(id api.ID) string {
	return "pack/" + sha.Text(id)
}

// sum is a blob's sum.
func sum(b string) api.ID {
	return sha.Of([]byte(b))
}

// sums is the sums of blobs, rising.
func sums(blobs ...string) []api.ID {
	var all []api.ID
	for _, b := range blobs {
		all = append(all, sum(b))
	}
	return sorted(all...)
}

// sorted is sums, rising.
func sorted(list ...api.ID) []api.ID {
	return slices.SortedFunc(slices.Values(list), func(a, b api.ID) int { return slices.Compare(a[:], b[:]) })
}

// put lets the index have a pack.
func (w *world) put(id api.ID, cold bool, list []pack.Entry) {
	w.t.Helper()
	x := w.Index()
	w.must(x.Put(id, cold, list))
	w.must(w.Commit(x))
}

// packed is a pack's bytes, their sum, and its blobs.
func packed(t *testing.T, blobs ...string) ([]byte, api.ID, []pack.Entry) {
	t.Helper()
	var b pack.Builder
	var list []pack.Entry
	for _, x := range blobs {
		entry, e := b.Add([]byte(x))
		if e != api.OK {
			t.Fatal(e)
		}
		list = append(list, entry)
	}
	return b.Done(), sha.Of(b.Done()), list
}

// save saves blobs as a hot pack: its sum.
func (w *world) save(blobs ...string) api.ID {
	w.t.Helper()
	b, id, list := packed(w.t, blobs...)
	w.must(w.hot.Put(named(id), b))
	w.put(id, false, list)
	return id
}

// freeze saves blobs as a cold pack: its sum.
func (w *world) freeze(blobs ...string) api.ID {
	w.t.Helper()
	b, id, list := packed(w.t, blobs...)
	w.must(w.ice.Put(named(id), b, 0))
	w.put(id, true, list)
	return id
}

// file is the node of a file, which has these chunks.
func file(name string, chunks ...string) tree.Node {
	n := tree.Node{Name: name}
	for _, c := range chunks {
		n.Size += int64(len(c))
		n.Parts = append(n.Parts, sum(c))
	}
	return n
}

// dir is the bytes of a tree.
func dir(t *testing.T, nodes ...tree.Node) string {
	t.Helper()
	b, e := tree.Encode(nodes)
	if e != api.OK {
		t.Fatal(e)
	}
	return string(b)
}

// asks tells how many operations something must do on both stores.
func (w *world) asks(hot, ice int, f func()) {
	w.t.Helper()
	hot, ice = hot+w.hot.Ops(), ice+w.ice.Ops()
	f()
	if w.hot.Ops() != hot || w.ice.Ops() != ice {
		w.t.Errorf("%d hot operations too many, %d cold ones", w.hot.Ops()-hot, w.ice.Ops()-ice)
	}
}

// going is a restore, and its world.
type going struct {
	*world
	*restore.Restore
}

// begin begins a restore of a tree.
func (w *world) begin(root string, room int) *going {
	w.t.Helper()
	g := &going{w, restore.New(w.Depot, sum(root), room)}
	g.stands(0)
	return g
}

// stands tells how many packs must have been asked for, and which blobs are staged.
func (g *going) stands(asked int, blobs ...string) {
	g.t.Helper()
	size := 0
	for _, b := range blobs {
		size += len(b)
	}
	if g.Asked() != asked || g.Staged() != size {
		g.t.Errorf("%d packs were asked for, not %d; %d bytes are staged, not %d", g.Asked(), asked, g.Staged(), size)
	}
	if got := slices.Collect(g.Blobs()); !slices.Equal(got, sums(blobs...)) {
		g.t.Errorf("%d blobs are staged, not %d", len(got), len(blobs))
	}
}

// step tells what a Step must answer, and how many operations it must do.
func (g *going) step(now int64, batch int, wait int64, done bool, want api.Errno, hot, ice int) {
	g.t.Helper()
	g.asks(hot, ice, func() {
		if got, e := g.Step(now, batch, wait); got != done || e != want {
			g.t.Errorf("at %d: %v %d, not %v %d", now, got, e, done, want)
		}
	})
	if !done {
		g.has()
	}
}

// has tells which files must be had: paths, each with its bytes.
func (g *going) has(want ...string) {
	g.t.Helper()
	files := g.Files()
	if len(files) != len(want)/2 {
		g.t.Fatalf("%d files, not %d", len(files), len(want)/2)
	}
	for i, f := range files {
		if f.Path != want[2*i] || string(f.Data) != want[2*i+1] {
			g.t.Errorf("%s: %q, not %s: %q", f.Path, f.Data, want[2*i], want[2*i+1])
		}
	}
}

// equal tells whether files are the same.
func equal(a, b []api.File) bool {
	return slices.EqualFunc(a, b, func(f, g api.File) bool { return f.Path == g.Path && bytes.Equal(f.Data, g.Data) })
}

// arms is what is to come: the power goes behind so many operations of both stores (below 0: it doesn't), and the faults of each.
type arms struct {
	power    int
	hot, ice []bool
}

// failing is what is to come, if an operation fails, of which each letter tells the store: h or c.
func failing(operations string, at int) arms {
	a := arms{power: -1}
	for i, store := range operations {
		if store == 'h' {
			a.hot = append(a.hot, i == at)
		} else {
			a.ice = append(a.ice, i == at)
		}
	}
	return a
}

// do does something, armed so: false and ErrCrash, if the power went.
func (w *world) do(a arms, f func() (bool, api.Errno)) (done bool, e api.Errno) {
	w.t.Helper()
	fuse := guard.NewFuse(a.power)
	w.hot.Arm(fuse, a.hot)
	w.ice.Arm(fuse, a.ice)
	blew := fuse.Catch(func() { done, e = f() })
	w.hot.Arm(nil, nil)
	w.ice.Arm(nil, nil)
	if blew {
		return false, api.ErrCrash
	}
	return done, e
}
