package tier_test

import (
	"bytes"
	"maps"
	"slices"
	"strings"
	"testing"

	"coldstore/api"
	"coldstore/cold"
	"coldstore/depot"
	"coldstore/guard"
	"coldstore/object"
	"coldstore/pack"
	"coldstore/sha"
	"coldstore/snap"
	"coldstore/tree"
)

// world is two stores, and a depot of them. What is cold is young for 10.
type world struct {
	t   *testing.T
	hot *object.Store
	ice *cold.Store
	*depot.Depot
}

// empty is a world of stores that have nothing, whose depot's cache has a limit.
func empty(t *testing.T, limit int) *world {
	t.Helper()
	hot, e := object.New(1 << 26)
	ice, f := cold.New(1<<26, 64, 1000, 10)
	d, g := depot.Open(hot, ice, limit)
	if e != api.OK || f != api.OK || g != api.OK {
		t.Fatal(e, f, g)
	}
	return &world{t, hot, ice, d}
}

// must ends the test, if there is an error.
func (w *world) must(e api.Errno) {
	w.t.Helper()
	if e != api.OK {
		w.t.Fatal(e)
	}
}

// named is a pack's name.
func named(id api.ID) string {
	return "pack/" + sha.Text(id)
}

// noted is the name of a note.
func noted(id api.ID) string {
	return "move/" + sha.Text(id)
}

// sum is a blob's sum.
func sum(b string) api.ID {
	return sha.Of([]byte(b))
}

// packed is a pack's bytes, their sum, and its blobs.
func packed(t *testing.T, blobs ...string) ([]byte, api.ID, []pack.Entry) {
	t.Helper()
	var b pack.Builder
	var list []pack.Entry
	for _, x := range blobs {
		entry, e := b.Add([]byte(x))
		if e != api.OK {
			t.Fatal(e)
		}
		list = append(list, entry)
	}
	return b.Done(), sha.Of(b.Done()), list
}

// save saves blobs as a hot pack: its sum.
func (w *world) save(blobs ...string) api.ID {
	w.t.Helper()
	b, id, list := packed(w.t, blobs...)
	w.must(w.hot.Put(named(id), b))
	w.put(id, false, list)
	return id
}

// put lets the index have a pack.
func (w *world) put(id api.ID, cold bool, list []pack.Entry) {
	w.t.Helper()
	x := w.Index()
	w.must(x.Put(id, cold, list))
	w.must(w.Commit(x))
}

// freeze makes a hot pack a cold one, without a note.
func (w *world) freeze(id api.ID, now int64) api.ID {
	w.t.Helper()
	b, e := w.hot.Get(named(id))
	w.must(e)
	w.must(w.ice.Put(named(id), b, now))
	x := w.Index()
	x.Move(id, true)
	w.must(w.Commit(x))
	w.must(w.hot.Drop(named(id)))
	return id
}

// dir is the bytes of a tree of a file, which has these chunks.
func dir(t *testing.T, chunks ...string) string {
	t.Helper()
	n := tree.Node{Name: "f"}
	for _, c := range chunks {
		n.Size += int64(len(c))
		n.Parts = append(n.Parts, sum(c))
	}
	b, e := tree.Encode([]tree.Node{n})
	if e != api.OK {
		t.Fatal(e)
	}
	return string(b)
}

// keep lists a snapshot of a tree: its name.
func (w *world) keep(time int64, root string) string {
	w.t.Helper()
	b, e := snap.Encode(snap.Snap{Time: time, Host: "h", Root: sum(root), Files: 1})
	w.must(e)
	w.must(w.hot.Put(snap.Name(b), b))
	return snap.Name(b)
}

// sorted is sums, rising.
func sorted(list ...api.ID) []api.ID {
	return slices.SortedFunc(slices.Values(list), func(a, b api.ID) int { return slices.Compare(a[:], b[:]) })
}

// names is the names of packs, rising.
func names(list []api.ID) []string {
	var all []string
	for _, id := range sorted(list...) {
		all = append(all, named(id))
	}
	return all
}

// stands tells which packs the stores have, which of them the index has as hot, and as cold ones, and which packs have notes.
func (w *world) stands(hot, ice, hotOf, coldOf, notes []api.ID) {
	w.t.Helper()
	var hots, colds, all []string
	for name := range w.hot.All() {
		if strings.HasPrefix(name, "pack/") {
			hots = append(hots, name)
		}
		if of, is := strings.CutPrefix(name, "move/"); is {
			all = append(all, "pack/"+of)
		}
	}
	for name := range w.ice.All() {
		colds = append(colds, name)
	}
	if !slices.Equal(hots, names(hot)) || !slices.Equal(colds, names(ice)) || !slices.Equal(all, names(notes)) {
		w.t.Errorf("the stores have %d and %d, not %d and %d; there are %d notes, not %d", len(hots), len(colds), len(hot), len(ice), len(all), len(notes))
	}
	w.tells(hotOf, coldOf)
}

// tells tells which packs, hot and cold, the index has.
func (w *world) tells(hotOf, coldOf []api.ID) {
	w.t.Helper()
	var hots, colds []api.ID
	for id, cold := range w.Index().Packs() {
		if cold {
			colds = append(colds, id)
		} else {
			hots = append(hots, id)
		}
	}
	if !slices.Equal(hots, sorted(hotOf...)) || !slices.Equal(colds, sorted(coldOf...)) {
		w.t.Errorf("the index has %d hot ones, not %d, and %d cold ones, not %d", len(hots), len(hotOf), len(colds), len(coldOf))
	}
}

// has tells that each store has the index's packs of its own, and that no note is left.
func (w *world) has(hot, ice []api.ID) {
	w.t.Helper()
	w.stands(hot, ice, hot, ice, nil)
}

// asks tells how many operations something must do on both stores.
func (w *world) asks(hot, ice int, f func()) {
	w.t.Helper()
	hot, ice = hot+w.hot.Ops(), ice+w.ice.Ops()
	f()
	if w.hot.Ops() != hot || w.ice.Ops() != ice {
		w.t.Errorf("%d hot operations too many, %d cold ones", w.hot.Ops()-hot, w.ice.Ops()-ice)
	}
}

// arms is what is to come: the power goes behind so many operations of both stores (below 0: it doesn't), and the faults of each.
type arms struct {
	power    int
	hot, ice []bool
}

// failing is what is to come, if an operation fails, of which each letter tells the store: h or c.
func failing(operations string, at int) arms {
	a := arms{power: -1}
	for i, store := range operations {
		if store == 'h' {
			a.hot = append(a.hot, i == at)
		} else {
			a.ice = append(a.ice, i == at)
		}
	}
	return a
}

// do does something, armed so: 0 and ErrCrash, if the power went; the depot is opened anew then.
func (w *world) do(a arms, f func() (int, api.Errno)) (n int, e api.Errno) {
	w.t.Helper()
	fuse := guard.NewFuse(a.power)
	w.hot.Arm(fuse, a.hot)
	w.ice.Arm(fuse, a.ice)
	blew := fuse.Catch(func() { n, e = f() })
	w.hot.Arm(nil, nil)
	w.ice.Arm(nil, nil)
	if blew {
		w.reopen()
		return 0, api.ErrCrash
	}
	return n, e
}

// reopen opens the depot anew.
func (w *world) reopen() {
	w.t.Helper()
	d, e := depot.Open(w.hot, w.ice, 0)
	w.must(e)
	w.Depot = d
}

// same tells that two worlds are the same.
func same(t *testing.T, a, b *world) {
	t.Helper()
	if a.hot.Ops() != b.hot.Ops() || a.ice.Ops() != b.ice.Ops() {
		t.Fatalf("%d hot operations, not %d; %d cold ones, not %d", a.hot.Ops(), b.hot.Ops(), a.ice.Ops(), b.ice.Ops())
	}
	if !maps.Equal(maps.Collect(a.hot.All()), maps.Collect(b.hot.All())) || !maps.Equal(maps.Collect(a.ice.All()), maps.Collect(b.ice.All())) {
		t.Fatal("the stores have other things")
	}
	for name := range a.ice.All() {
		if a.ice.Left(name, 0) != b.ice.Left(name, 0) {
			t.Fatal("what is cold is there since another time")
		}
	}
	if !bytes.Equal(a.Index().Encode(), b.Index().Encode()) || a.ice.Lost() != b.ice.Lost() {
		t.Fatal("the index is another one, or what was lost")
	}
	if !slices.Equal(slices.Collect(a.Cache().All()), slices.Collect(b.Cache().All())) {
		t.Fatal("the cache is another one")
	}
}
