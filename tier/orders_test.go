package tier_test

import (
	"bytes"
	"maps"
	"math/rand"
	"slices"
	"strconv"
	"strings"
	"testing"

	"coldstore/api"
	"coldstore/backup"
	"coldstore/chunk"
	"coldstore/guard"
	"coldstore/pack"
	"coldstore/prune"
	"coldstore/sha"
	"coldstore/tier"
	"coldstore/tree"
	"coldstore/walk"
)

// kept is a world, and what it should have: files by their snapshots' names, and the bytes of all packs.
type kept struct {
	*world
	files map[string][]api.File
	packs map[string][]byte
}

// load is a blob from its place, whether it is thawed or not.
func (k *kept) load(id api.ID) ([]byte, api.Errno) {
	p, found := k.Index().Find(id)
	if !found {
		return nil, api.ErrNone
	}
	name := named(p.Pack)
	b, e := k.hot.Get(name)
	if p.Cold {
		b, e = k.packs[name], api.OK
		if k.ice.State(name, 0) < 0 {
			e = api.ErrNone
		}
	}
	if e != api.OK {
		return nil, e
	}
	return pack.Blob(b, pack.Entry{ID: id, Off: p.Off, Len: p.Len})
}

// holds tells that all that should be listed is, and is walked as it was, and that each pack is in the store that the index names.
func (k *kept) holds() {
	k.t.Helper()
	list, e := backup.List(k.hot)
	if e != api.OK || len(list) != len(k.files) {
		k.t.Fatalf("%d of %d are listed, %d", len(list), len(k.files), e)
	}
	for _, n := range list {
		got, e := walk.Files(n.Snap.Root, k.load)
		want := k.files[n.Name]
		if e != api.OK || !slices.EqualFunc(got, want, func(f, g api.File) bool { return f.Path == g.Path && bytes.Equal(f.Data, g.Data) }) {
			k.t.Fatalf("%s: %d files of %d, %d", n.Name, len(got), len(want), e)
		}
	}
	hot := maps.Collect(k.hot.All())
	for id, cold := range k.Index().Packs() {
		if _, is := hot[named(id)]; cold && k.ice.State(named(id), 0) < 0 || !cold && !is {
			k.t.Fatal("a pack isn't where it should be")
		}
	}
	if k.ice.Lost() != 0 {
		k.t.Fatal("something was lost")
	}
}

// ended tells that no note is left, and no pack of the index is in both stores.
func (k *kept) ended() {
	k.t.Helper()
	hot := maps.Collect(k.hot.All())
	for name := range hot {
		if strings.HasPrefix(name, "move/") {
			k.t.Fatal("a note is left")
		}
	}
	for id := range k.Index().Packs() {
		if _, is := hot[named(id)]; is && k.ice.State(named(id), 0) >= 0 {
			k.t.Fatal("a pack is in both stores")
		}
	}
}

// chosen is right files, of which many come again and again.
func chosen(r *rand.Rand) []api.File {
	var list []api.File
	for _, p := range []string{"a", "b/a", "b/b/a", "c"} {
		f := api.File{Path: p, Data: []byte(strings.Repeat(strconv.Itoa(r.Intn(4)), r.Intn(60)))}
		if r.Intn(3) == 0 {
			f.Data = make([]byte, r.Intn(60))
			r.Read(f.Data)
		}
		if r.Intn(4) > 0 {
			list = append(list, f)
		}
	}
	return list
}

// save keeps files as a snapshot, in packs of few blobs.
func (k *kept) save(r *rand.Rand, now int64) {
	k.t.Helper()
	files := chosen(r)
	j := backup.Job{Time: now, Host: "h", Target: r.Intn(400), Cut: chunk.Params{Min: 8, Max: 20, Bits: 3, Width: 4}}
	n, e := backup.Run(k.Depot, files, j)
	k.must(e)
	k.files[n.Name] = files
	k.know()
}

// know keeps the bytes of all hot packs.
func (k *kept) know() {
	k.t.Helper()
	list, e := k.hot.List("pack/")
	k.must(e)
	for _, name := range list {
		b, e := k.hot.Get(name)
		k.must(e)
		k.packs[name] = b
	}
}

// grown is a world of many snapshots, some of which were forgotten, and packs, some of which were moved, or half of it; and its time.
func grown(t *testing.T, seed int64, limit int) (*kept, int64) {
	t.Helper()
	r := rand.New(rand.NewSource(seed))
	k := &kept{empty(t, limit), map[string][]api.File{}, map[string][]byte{}}
	now := int64(0)
	for range 1 + r.Intn(6) {
		now += int64(r.Intn(6))
		k.save(r, now)
		if r.Intn(3) == 0 {
			k.do(armed(r, 40), func() (int, api.Errno) { return tier.Run(k.Depot, 3, now) })
			k.holds()
		}
		if r.Intn(3) == 0 {
			// What was pruned meanwhile may have a note yet.
			_, e := prune.Run(k.Depot, now, 50, 100, false)
			k.must(e)
			k.know()
		}
		if r.Intn(4) == 0 {
			k.must(k.hot.Put("move/"+strconv.Itoa(r.Intn(9)), nil))
			k.must(k.hot.Put(noted(api.ID{byte(r.Intn(256))}), nil))
		}
	}
	for _, name := range slices.Sorted(maps.Keys(k.files)) {
		if r.Intn(3) == 0 {
			k.must(k.hot.Drop(name))
			delete(k.files, name)
		}
	}
	return k, now + int64(r.Intn(6))
}

// isTree tells whether a blob is a tree's bytes.
func isTree(blob []byte) bool {
	_, e := tree.Decode(blob)
	return e == api.OK
}

// found does what the chapter says of Find, operation by operation; it throws the error.
func (w *world) found(age, now int64) []api.ID {
	var sums [][]api.ID
	list := guard.Value(backup.List(w.hot))
	for _, n := range list {
		sums = append(sums, guard.Value(walk.Sums(n.Snap.Root, func(id api.ID) ([]byte, api.Errno) { return w.Load(id, now) })))
	}
	var ids []api.ID
	x := w.Index()
	for id, cold := range x.Packs() {
		entries, _, _ := x.Pack(id)
		live, young, trees := false, false, false
		for _, e := range entries {
			for i, n := range list {
				if slices.Contains(sums[i], e.ID) {
					live = true
					young = young || n.Snap.Time > now-age
				}
			}
		}
		if cold || !live || young {
			continue
		}
		b := guard.Value(w.hot.Get(named(id)))
		for _, e := range entries {
			trees = trees || isTree(guard.Value(pack.Blob(b, e)))
		}
		if !trees {
			ids = append(ids, id)
		}
	}
	return ids
}

// moveBy does what the chapter says of Move, operation by operation; it throws the error.
func (w *world) moveBy(id api.ID, now int64) {
	must := guard.Must
	must(w.hot.Put(noted(id), nil))
	b := guard.Value(w.hot.Get(named(id)))
	if len(guard.Value(w.ice.List(named(id)))) == 0 {
		must(w.ice.Put(named(id), b, now))
	}
	x := w.Index()
	x.Move(id, true)
	must(w.Commit(x))
	must(w.hot.Drop(named(id)))
	must(w.hot.Drop(noted(id)))
}

// recoverBy does what the chapter says of Recover, operation by operation; it throws the error.
func (w *world) recoverBy(now int64) {
	must := guard.Must
	for _, name := range guard.Value(w.hot.List("move/")) {
		if id, e := sha.Parse(name[len("move/"):]); e == api.OK {
			isHot := len(guard.Value(w.hot.List(named(id)))) > 0
			isIce := len(guard.Value(w.ice.List(named(id)))) > 0
			_, cold, there := w.Index().Pack(id)
			if there && !cold && isHot && !isIce {
				must(w.ice.Put(named(id), guard.Value(w.hot.Get(named(id))), now))
				isIce = true
			}
			if there && !cold && isIce {
				x := w.Index()
				x.Move(id, true)
				must(w.Commit(x))
			}
			if _, cold, _ := w.Index().Pack(id); cold && isHot {
				must(w.hot.Drop(named(id)))
			}
		}
		must(w.hot.Drop(name))
	}
}

// steps does what the chapter says of Run.
func (w *world) steps(age, now int64) (n int, e api.Errno) {
	e = guard.Run(func() {
		w.recoverBy(now)
		for _, id := range w.found(age, now) {
			w.moveBy(id, now)
			n++
		}
	})
	return n, e
}

// armed is arms, one of many, of operations of which there are about so many.
func armed(r *rand.Rand, n int) arms {
	a := arms{power: -1}
	switch r.Intn(4) {
	case 0:
		a.power = r.Intn(n)
	case 1:
		a.hot = append(make([]bool, r.Intn(n)), true)
	case 2:
		a.ice = append(make([]bool, r.Intn(6)), true)
	}
	return a
}

func TestManyWorlds(t *testing.T) {
	ends := map[api.Errno]int{}
	moved, recovered := 0, 0
	for seed := range int64(400) {
		r := rand.New(rand.NewSource(-seed))
		limit := r.Intn(2) * r.Intn(3000)
		k, now := grown(t, seed, limit)
		twin, _ := grown(t, seed, limit)
		k.holds()
		twin.holds()
		age, a := int64(r.Intn(10)), armed(r, 40)
		got, e := k.do(a, func() (int, api.Errno) { return tier.Run(k.Depot, age, now) })
		want, f := twin.do(a, func() (int, api.Errno) { return twin.steps(age, now) })
		if got != want || e != f {
			t.Fatalf("seed %d: %d %d, not %d %d", seed, got, e, want, f)
		}
		same(t, k.world, twin.world)
		k.holds()
		if e == api.OK {
			k.ended()
		}
		ends[e]++
		n, e := tier.Recover(k.Depot, now)
		if e != api.OK {
			t.Fatalf("seed %d: %d", seed, e)
		}
		recovered += n
		k.holds()
		k.ended()
		all, e := tier.Run(k.Depot, age, now)
		if e != api.OK {
			t.Fatalf("seed %d: %d", seed, e)
		}
		k.holds()
		k.ended()
		if left, e := tier.Find(k.Depot, age, now); e != api.OK || len(left) > 0 {
			t.Fatalf("seed %d: %d are left, %d", seed, len(left), e)
		}
		moved += got + all
	}
	if ends[api.OK] < 100 || ends[api.ErrFault] < 30 || ends[api.ErrCrash] < 30 || moved < 300 || recovered < 50 {
		t.Errorf("%v, %d, %d", ends, moved, recovered)
	}
}
