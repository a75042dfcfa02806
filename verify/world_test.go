package verify_test

import (
	"bytes"
	"maps"
	"slices"
	"testing"

	"coldstore/api"
	"coldstore/cold"
	"coldstore/depot"
	"coldstore/guard"
	"coldstore/index"
	"coldstore/object"
	"coldstore/pack"
	"coldstore/sha"
	"coldstore/snap"
	"coldstore/tree"
	"coldstore/verify"
)

// world is two stores, and a depot of them. What is cold is young for 10.
type world struct {
	t   *testing.T
	hot *object.Store
	ice *cold.Store
	*depot.Depot
}

// worldOf is a world of stores that have nothing, with a quota, whose depot's cache has a limit.
func worldOf(t *testing.T, quota, limit int) *world {
	t.Helper()
	hot, e := object.New(quota)
	ice, f := cold.New(1<<26, 64, 1000, 10)
	d, g := depot.Open(hot, ice, limit)
	if e != api.OK || f != api.OK || g != api.OK {
		t.Fatal(e, f, g)
	}
	return &world{t, hot, ice, d}
}

// empty is a world of stores that have nothing, without a cache.
func empty(t *testing.T) *world {
	t.Helper()
	return worldOf(t, 1<<26, 0)
}

// must ends the test, if there is an error.
func (w *world) must(e api.Errno) {
	w.t.Helper()
	if e != api.OK {
		w.t.Fatal(e)
	}
}

// named is a pack's name.
func named(id api.ID) string {
	return "pack/" + sha.Text(id)
}

// sum is a blob's sum.
func sum(b string) api.ID {
	return sha.Of([]byte(b))
}

// sums is the sums of blobs, rising.
func sums(blobs ...string) []api.ID {
	var all []api.ID
	for _, b := range blobs {
		all = append(all, sum(b))
	}
	return sorted(all...)
}

// sorted is sums, rising.
func sorted(list ...api.ID) []api.ID {
	return slices.SortedFunc(slices.Values(list), func(a, b api.ID) int { return slices.Compare(a[:], b[:]) })
}

// packed is a pack's bytes, their sum, and its blobs.
func packed(t *testing.T, blobs ...string) ([]byte, api.ID, []pack.Entry) {
	t.Helper()
	var b pack.Builder
	var list []pack.Entry
	for _, x := range blobs {
		entry, e := b.Add([]byte(x))
		if e != api.OK {
			t.Fatal(e)
		}
		list = append(list, entry)
	}
	return b.Done(), sha.Of(b.Done()), list
}

// put lets the index have a pack.
func (w *world) put(id api.ID, cold bool, list []pack.Entry) {
	w.t.Helper()
	x := w.Index()
	w.must(x.Put(id, cold, list))
	w.must(w.Commit(x))
}

// drop lets packs go from the index.
func (w *world) drop(ids ...api.ID) {
	w.t.Helper()
	x := w.Index()
	for _, id := range ids {
		x.Drop(id)
	}
	w.must(w.Commit(x))
}

// move lets packs of the index be cold, or hot ones, whatever the stores have.
func (w *world) move(cold bool, ids ...api.ID) {
	w.t.Helper()
	x := w.Index()
	for _, id := range ids {
		x.Move(id, cold)
	}
	w.must(w.Commit(x))
}

// heat puts bytes into the hot store, by the name of their sum: it.
func (w *world) heat(b []byte) api.ID {
	w.t.Helper()
	w.must(w.hot.Put(named(sha.Of(b)), b))
	return sha.Of(b)
}

// freeze puts bytes into the cold store, by the name of their sum: it.
func (w *world) freeze(b []byte) api.ID {
	w.t.Helper()
	w.must(w.ice.Put(named(sha.Of(b)), b, 0))
	return sha.Of(b)
}

// save saves blobs as a hot pack: its sum.
func (w *world) save(blobs ...string) api.ID {
	w.t.Helper()
	b, id, list := packed(w.t, blobs...)
	w.heat(b)
	w.put(id, false, list)
	return id
}

// saveCold saves blobs as a cold pack: its sum.
func (w *world) saveCold(blobs ...string) api.ID {
	w.t.Helper()
	b, id, list := packed(w.t, blobs...)
	w.freeze(b)
	w.put(id, true, list)
	return id
}

// dir is the bytes of a tree of a file, which has these chunks.
func dir(t *testing.T, chunks ...string) string {
	t.Helper()
	n := tree.Node{Name: "f"}
	for _, c := range chunks {
		n.Size += int64(len(c))
		n.Parts = append(n.Parts, sum(c))
	}
	b, e := tree.Encode([]tree.Node{n})
	if e != api.OK {
		t.Fatal(e)
	}
	return string(b)
}

// keep lists a snapshot of a tree.
func (w *world) keep(time int64, root string) {
	w.t.Helper()
	b, e := snap.Encode(snap.Snap{Time: time, Host: "h", Root: sum(root), Files: 1})
	w.must(e)
	w.must(w.hot.Put(snap.Name(b), b))
}

// asks tells how many operations something must do on both stores.
func (w *world) asks(hot, ice int, f func()) {
	w.t.Helper()
	hot, ice = hot+w.hot.Ops(), ice+w.ice.Ops()
	f()
	if w.hot.Ops() != hot || w.ice.Ops() != ice {
		w.t.Errorf("%d hot operations too many, %d cold ones", w.hot.Ops()-hot, w.ice.Ops()-ice)
	}
}

// equal tells whether two reports are the same.
func equal(a, b verify.Report) bool {
	return slices.Equal(a.Missing, b.Missing) && slices.Equal(a.Lost, b.Lost) && slices.Equal(a.Bad, b.Bad)
}

// check tells what Check must answer, and how many operations it must do.
func (w *world) check(want verify.Report, hot, ice int) {
	w.t.Helper()
	w.asks(hot, ice, func() {
		got, e := verify.Check(w.Depot, 0)
		if e != api.OK || !equal(got, want) {
			w.t.Errorf("%d, %d and %d, %d, not %d, %d and %d", len(got.Missing), len(got.Lost), len(got.Bad), e, len(want.Missing), len(want.Lost), len(want.Bad))
		}
	})
}

// fails tells with which error Check must end, and how many operations it must do.
func (w *world) fails(now int64, want api.Errno, hot, ice int) {
	w.t.Helper()
	w.asks(hot, ice, func() {
		if got, e := verify.Check(w.Depot, now); e != want || !equal(got, verify.Report{}) {
			w.t.Errorf("%v, %d, not %d", got, e, want)
		}
	})
}

// same tells whether two indexes are the same.
func same(a, b *index.Index) bool {
	return bytes.Equal(a.Encode(), b.Encode())
}

// rebuilds tells which index Rebuild must answer, and how many operations it must do.
func (w *world) rebuilds(want *index.Index, hot, ice int) {
	w.t.Helper()
	own := w.Index()
	w.asks(hot, ice, func() {
		got, e := verify.Rebuild(w.Depot)
		if e != api.OK || got == nil || !same(got, want) {
			w.t.Errorf("another index, %d", e)
		}
	})
	if !same(w.Index(), own) {
		w.t.Error("the depot's index is another one")
	}
}

// indexOf is an index of packs that are told by those who put them.
func indexOf(t *testing.T, puts ...func(*index.Index) api.Errno) *index.Index {
	t.Helper()
	var x index.Index
	for _, put := range puts {
		if e := put(&x); e != api.OK {
			t.Fatal(e)
		}
	}
	return &x
}

// hotOf and coldOf put a pack of blobs.
func hotOf(t *testing.T, blobs ...string) func(*index.Index) api.Errno {
	_, id, list := packed(t, blobs...)
	return func(x *index.Index) api.Errno { return x.Put(id, false, list) }
}

func coldOf(t *testing.T, blobs ...string) func(*index.Index) api.Errno {
	_, id, list := packed(t, blobs...)
	return func(x *index.Index) api.Errno { return x.Put(id, true, list) }
}

// arms is what is to come: the power goes behind so many operations of both stores (below 0: it doesn't), and the faults of each.
type arms struct {
	power    int
	hot, ice []bool
}

// failing is what is to come, if an operation fails, of which each letter tells the store: h or c.
func failing(operations string, at int) arms {
	a := arms{power: -1}
	for i, store := range operations {
		if store == 'h' {
			a.hot = append(a.hot, i == at)
		} else {
			a.ice = append(a.ice, i == at)
		}
	}
	return a
}

// do does something, armed so: did the power go? The depot is opened anew then.
func (w *world) do(a arms, f func()) bool {
	w.t.Helper()
	fuse := guard.NewFuse(a.power)
	w.hot.Arm(fuse, a.hot)
	w.ice.Arm(fuse, a.ice)
	blew := fuse.Catch(f)
	w.hot.Arm(nil, nil)
	w.ice.Arm(nil, nil)
	if blew {
		w.reopen()
	}
	return blew
}

// reopen opens the depot anew.
func (w *world) reopen() {
	w.t.Helper()
	d, e := depot.Open(w.hot, w.ice, 0)
	w.must(e)
	w.Depot = d
}

// things is what both stores have.
func (w *world) things() (hot, ice map[string]int) {
	return maps.Collect(w.hot.All()), maps.Collect(w.ice.All())
}
