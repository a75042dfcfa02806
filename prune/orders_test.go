package prune_test

import (
	"bytes"
	"maps"
	"math/rand"
	"slices"
	"strconv"
	"strings"
	"testing"

	"coldstore/api"
	"coldstore/backup"
	"coldstore/chunk"
	"coldstore/depot"
	"coldstore/guard"
	"coldstore/index"
	"coldstore/pack"
	"coldstore/prune"
	"coldstore/sha"
	"coldstore/tree"
	"coldstore/walk"
)

// kept is a world, and what it should have: files by their snapshots' names, and the bytes of what was put into the cold store.
type kept struct {
	*world
	files  map[string][]api.File
	frozen map[string][]byte
}

// load is a blob from its place, whether it is thawed or not.
func (k *kept) load(id api.ID) ([]byte, api.Errno) {
	p, found := k.Index().Find(id)
	if !found {
		return nil, api.ErrNone
	}
	name := named(p.Pack)
	b, e := k.hot.Get(name)
	if p.Cold {
		b, e = k.frozen[name], api.OK
		if k.ice.State(name, 0) < 0 {
			e = api.ErrNone
		}
	}
	if e != api.OK {
		return nil, e
	}
	return pack.Blob(b, pack.Entry{ID: id, Off: p.Off, Len: p.Len})
}

// holds tells that all that should be listed is, and is walked as it was.
func (k *kept) holds() {
	k.t.Helper()
	list, e := backup.List(k.hot)
	if e != api.OK || len(list) != len(k.files) {
		k.t.Fatalf("%d of %d are listed, %d", len(list), len(k.files), e)
	}
	for _, n := range list {
		got, e := walk.Files(n.Snap.Root, k.load)
		want := k.files[n.Name]
		if e != api.OK || !slices.EqualFunc(got, want, func(f, g api.File) bool { return f.Path == g.Path && bytes.Equal(f.Data, g.Data) }) {
			k.t.Fatalf("%s: %d files of %d, %d", n.Name, len(got), len(want), e)
		}
	}
}

// tidy tells that each hot pack has a live blob, and isn't wasted more than asked; and that no pack is in a store that the index doesn't name, but those that may be.
func (k *kept) tidy(now int64, waste int, force bool) {
	k.t.Helper()
	live, e := prune.Live(k.Depot, now)
	k.must(e)
	x := k.Index()
	many, own := map[api.ID]int{}, map[api.ID]int{}
	for _, id := range live {
		p, found := x.Find(id)
		if !found {
			k.t.Fatal("a live blob has no place")
		}
		many[p.Pack]++
		own[p.Pack] += p.Len
	}
	hots, colds := map[string]int{}, map[string]int{}
	for id, cold := range x.Packs() {
		list, _, _ := x.Pack(id)
		all := 0
		for _, e := range list {
			all += e.Len
		}
		name := named(id)
		switch {
		case cold:
			colds[name]++
			if many[id] == 0 && (force || k.ice.Left(name, now) == 0) {
				k.t.Fatal("a cold pack is of no use")
			}
			continue
		case many[id] == 0:
			k.t.Fatal("a hot pack is of no use")
		case 100*(all-own[id]) > all*max(waste, 0):
			k.t.Fatal("a hot pack is wasted")
		}
		hots[name]++
	}
	if list, _ := k.hot.List("pack/"); !slices.Equal(list, slices.Sorted(maps.Keys(hots))) {
		k.t.Fatal("the hot store has other packs than the index")
	}
	list, _ := k.ice.List("pack/")
	for _, name := range list {
		if colds[name] == 0 && (force || k.ice.Left(name, now) == 0) {
			k.t.Fatal("the cold store has what the index doesn't name")
		}
		delete(colds, name)
	}
	if len(colds) > 0 {
		k.t.Fatal("the cold store hasn't what the index names")
	}
}

// chosen is right files, of which many come again and again.
func chosen(r *rand.Rand) []api.File {
	var list []api.File
	for _, p := range []string{"a", "b/a", "b/b/a", "c"} {
		f := api.File{Path: p, Data: []byte(strings.Repeat(strconv.Itoa(r.Intn(4)), r.Intn(60)))}
		if r.Intn(3) == 0 {
			f.Data = make([]byte, r.Intn(60))
			r.Read(f.Data)
		}
		if r.Intn(4) > 0 {
			list = append(list, f)
		}
	}
	return list
}

// save keeps files as a snapshot, in packs of few blobs.
func (k *kept) save(r *rand.Rand, now int64) {
	k.t.Helper()
	files := chosen(r)
	j := backup.Job{Time: now, Host: "h", Target: r.Intn(500), Cut: chunk.Params{Min: 8, Max: 20, Bits: 3, Width: 4}}
	n, e := backup.Run(k.Depot, files, j)
	k.must(e)
	k.files[n.Name] = files
}

// freeze moves some hot packs to the cold store: those that have no tree's bytes, since trees tell what is live.
func (k *kept) freeze(r *rand.Rand, now int64) {
	k.t.Helper()
	for id, cold := range k.Index().Packs() {
		if cold || r.Intn(3) == 0 {
			continue
		}
		b, e := k.hot.Get(named(id))
		k.must(e)
		if !hasTree(b) {
			k.frozen[named(id)] = b
			k.move(id, now)
		}
	}
}

// hasTree tells whether a blob of a pack is a tree's bytes.
func hasTree(b []byte) bool {
	for _, blob := range pack.All(b) {
		if _, e := tree.Decode(blob); e == api.OK {
			return true
		}
	}
	return false
}

// stray puts what is no pack's of the index into both stores.
func (k *kept) stray(r *rand.Rand, now int64) {
	k.t.Helper()
	for range r.Intn(3) {
		b, id, _ := packed(k.t, "stray "+strconv.Itoa(r.Intn(100)))
		if r.Intn(2) == 0 {
			k.must(k.hot.Put(named(id), b))
		} else {
			k.must(k.ice.Put(named(id), b, now))
		}
	}
}

// grown is a world of many snapshots, some of which were forgotten, and packs, some of which are cold ones; and its time.
func grown(t *testing.T, seed int64, limit int) (*kept, int64) {
	t.Helper()
	r := rand.New(rand.NewSource(seed))
	k := &kept{empty(t, limit), map[string][]api.File{}, map[string][]byte{}}
	now := int64(0)
	for range 1 + r.Intn(8) {
		now += int64(r.Intn(6))
		k.save(r, now)
		if r.Intn(2) == 0 {
			k.freeze(r, now)
		}
		k.stray(r, now)
	}
	for _, name := range slices.Sorted(maps.Keys(k.files)) {
		if r.Intn(2) == 0 {
			k.must(k.hot.Drop(name))
			delete(k.files, name)
		}
	}
	return k, now + int64(r.Intn(12))
}

// tells tells whether an index has a pack of a name.
func tells(x *index.Index, name string) bool {
	for id := range x.Packs() {
		if named(id) == name {
			return true
		}
	}
	return false
}

// call is what Run is handed besides the depot.
type call struct {
	now           int64
	waste, target int
	force         bool
}

// steps does what the chapter says of Run, operation by operation.
func (w *world) steps(c call) (r prune.Report, e api.Errno) {
	must := guard.Must
	e = guard.Run(func() {
		live := guard.Value(prune.Live(w.Depot, c.now))
		x := w.Index()
		plan := byHand(x, live, c.waste, func(id api.ID) bool { return !c.force && w.ice.Left(named(id), c.now) > 0 })
		var b pack.Builder
		var list []pack.Entry
		next := w.Index()
		for _, id := range slices.Concat(plan.Drop, plan.Repack) {
			next.Drop(id)
		}
		put := func() {
			must(w.hot.Put(pack.Name(b.Done()), b.Done()))
			next.Put(sha.Of(b.Done()), false, list)
			b, list = pack.Builder{}, nil
		}
		n := 0
		for _, id := range plan.Repack {
			blobs, _, _ := x.Pack(id)
			for _, e := range blobs {
				if place, _ := x.Find(e.ID); place.Pack != id || !slices.Contains(live, e.ID) {
					continue
				}
				entry := guard.Value(b.Add(guard.Value(w.Load(e.ID, c.now))))
				list = append(list, entry)
				n++
				if b.Size() >= c.target {
					put()
				}
			}
		}
		if b.Len() > 0 {
			put()
		}
		must(w.Commit(next))
		dropped := 0
		for _, name := range guard.Value(w.hot.List("pack/")) {
			if !tells(next, name) {
				must(w.hot.Drop(name))
				dropped++
			}
		}
		for _, name := range guard.Value(w.ice.List("pack/")) {
			if tells(next, name) {
				continue
			}
			if e := w.ice.Drop(name, c.now, c.force); e != api.ErrYoung {
				must(e)
				dropped++
			}
		}
		r = prune.Report{Dropped: dropped, Repacked: len(plan.Repack), Blobs: n}
	})
	return r, e
}

// arms is what is to come: the power goes behind so many operations of both stores (below 0: it doesn't), and the faults of each.
type arms struct {
	power    int
	hot, ice []bool
}

// do does something, armed so: ErrCrash, if the power went; the depot is opened anew then.
func (w *world) do(a arms, f func() (prune.Report, api.Errno)) (r prune.Report, e api.Errno) {
	w.t.Helper()
	fuse := guard.NewFuse(a.power)
	w.hot.Arm(fuse, a.hot)
	w.ice.Arm(fuse, a.ice)
	blew := fuse.Catch(func() { r, e = f() })
	w.hot.Arm(nil, nil)
	w.ice.Arm(nil, nil)
	if blew {
		w.reopen()
		return prune.Report{}, api.ErrCrash
	}
	return r, e
}

// reopen opens the depot anew.
func (w *world) reopen() {
	w.t.Helper()
	d, e := depot.Open(w.hot, w.ice, 0)
	w.must(e)
	w.Depot = d
}

// same tells that two worlds are the same.
func same(t *testing.T, a, b *world) {
	t.Helper()
	if a.hot.Ops() != b.hot.Ops() || a.ice.Ops() != b.ice.Ops() {
		t.Fatalf("%d hot operations, not %d; %d cold ones, not %d", a.hot.Ops(), b.hot.Ops(), a.ice.Ops(), b.ice.Ops())
	}
	if !maps.Equal(maps.Collect(a.hot.All()), maps.Collect(b.hot.All())) || !maps.Equal(maps.Collect(a.ice.All()), maps.Collect(b.ice.All())) {
		t.Fatal("the stores have other things")
	}
	if !bytes.Equal(a.Index().Encode(), b.Index().Encode()) || a.ice.Lost() != b.ice.Lost() {
		t.Fatal("the index is another one, or what was lost")
	}
	if !slices.Equal(slices.Collect(a.Cache().All()), slices.Collect(b.Cache().All())) {
		t.Fatal("the cache is another one")
	}
}

// armed is arms, one of many, of operations of which there are about so many.
func armed(r *rand.Rand, n int) arms {
	a := arms{power: -1}
	switch r.Intn(4) {
	case 0:
		a.power = r.Intn(n)
	case 1:
		a.hot = append(make([]bool, r.Intn(n)), true)
	case 2:
		a.ice = append(make([]bool, r.Intn(4)), true)
	}
	return a
}

func TestManyWorlds(t *testing.T) {
	ends := map[api.Errno]int{}
	var sum prune.Report
	for seed := range int64(400) {
		r := rand.New(rand.NewSource(-seed))
		limit := r.Intn(2) * r.Intn(3000)
		k, now := grown(t, seed, limit)
		twin, _ := grown(t, seed, limit)
		c := call{now, []int{-1, 0, 0, 20, 50, 100}[r.Intn(6)], r.Intn(600) - 50, r.Intn(3) == 0}
		lost := k.ice.Lost()
		k.holds()
		twin.holds()
		a := armed(r, 60)
		got, e := k.do(a, func() (prune.Report, api.Errno) { return prune.Run(k.Depot, c.now, c.waste, c.target, c.force) })
		want, f := twin.do(a, func() (prune.Report, api.Errno) { return twin.steps(c) })
		if got != want || e != f || e != api.OK && got != (prune.Report{}) {
			t.Fatalf("seed %d: %v %d, not %v %d", seed, got, e, want, f)
		}
		same(t, k.world, twin.world)
		k.holds()
		ends[e]++
		// Behind what failed it is done again.
		if e != api.OK {
			got, e = prune.Run(k.Depot, c.now, c.waste, c.target, c.force)
		}
		if e != api.OK {
			t.Fatalf("seed %d: %d", seed, e)
		}
		k.holds()
		k.tidy(c.now, c.waste, c.force)
		if !c.force && k.ice.Lost() != lost {
			t.Fatalf("seed %d: %d were lost", seed, k.ice.Lost()-lost)
		}
		sum = prune.Report{Dropped: sum.Dropped + got.Dropped, Repacked: sum.Repacked + got.Repacked, Blobs: sum.Blobs + got.Blobs}
	}
	if ends[api.OK] < 100 || ends[api.ErrFault] < 30 || ends[api.ErrCrash] < 30 {
		t.Errorf("%v", ends)
	}
	if sum.Dropped < 1000 || sum.Repacked < 300 || sum.Blobs < 600 {
		t.Errorf("%v", sum)
	}
}
