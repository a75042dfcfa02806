package verify_test

import (
	"bytes"
	"maps"
	"math/rand"
	"slices"
	"testing"

	"coldstore/api"
	"coldstore/guard"
	"coldstore/index"
	"coldstore/pack"
	"coldstore/prune"
	"coldstore/sha"
	"coldstore/verify"
)

// isWhole tells whether bytes are a pack's, of a sum, with these blobs.
func isWhole(b []byte, id api.ID, told []pack.Entry) bool {
	list, e := pack.Read(b)
	whole := sha.Of(b) == id && e == api.OK && len(list) == len(told)
	for i := 0; whole && i < len(list); i++ {
		blob, e := pack.Blob(b, list[i])
		whole = list[i] == told[i] && e == api.OK && sha.Of(blob) == told[i].ID
	}
	return whole
}

// checked does what the chapter says of Check, operation by operation.
func (w *world) checked(now int64) (r verify.Report, e api.Errno) {
	e = guard.Run(func() {
		live := guard.Value(prune.Live(w.Depot, now))
		var got verify.Report
		x := w.Index()
		for _, id := range live {
			if _, found := x.Find(id); !found {
				got.Missing = append(got.Missing, id)
			}
		}
		for id, cold := range x.Packs() {
			told, _, _ := x.Pack(id)
			if cold {
				if len(guard.Value(w.ice.List(named(id)))) == 0 {
					got.Lost = append(got.Lost, id)
				}
				continue
			}
			if len(guard.Value(w.hot.List(named(id)))) == 0 {
				got.Lost = append(got.Lost, id)
			} else if !isWhole(guard.Value(w.hot.Get(named(id))), id, told) {
				got.Bad = append(got.Bad, id)
			}
		}
		r = got
	})
	return r, e
}

// rebuilt does what the chapter says of Rebuild, operation by operation.
func (w *world) rebuilt() (made *index.Index, e api.Errno) {
	e = guard.Run(func() {
		var x index.Index
		for _, name := range guard.Value(w.hot.List("pack/")) {
			b := guard.Value(w.hot.Get(name))
			if list, e := pack.Read(b); e == api.OK && pack.Name(b) == name {
				guard.Must(x.Put(sha.Of(b), false, list))
			}
		}
		own := w.Index()
		for _, name := range guard.Value(w.ice.List("pack/")) {
			for id := range own.Packs() {
				list, _, _ := own.Pack(id)
				if _, _, hot := x.Pack(id); named(id) == name && !hot {
					guard.Must(x.Put(id, true, list))
				}
			}
		}
		made = &x
	})
	return made, e
}

// mended does what the chapter says of Mend.
func (w *world) mended() (n int, e api.Errno) {
	e = guard.Run(func() {
		x := guard.Value(w.rebuilt())
		guard.Must(w.Commit(x))
		n = x.Len()
	})
	return n, e
}

// some is one of the packs that an index has.
func some(r *rand.Rand, x *index.Index) api.ID {
	var ids []api.ID
	for id := range x.Packs() {
		ids = append(ids, id)
	}
	if len(ids) == 0 {
		return api.ID{}
	}
	return ids[r.Intn(len(ids))]
}

// spoil spoils something.
func (k *kept) spoil(r *rand.Rand) {
	k.t.Helper()
	x := k.Index()
	id := some(r, x)
	name := named(id)
	switch r.Intn(9) {
	case 0:
		k.hot.Drop(name)
	case 1:
		k.ice.Drop(name, k.now, true)
	case 2:
		if b := slices.Clone(k.packs[name]); len(b) > 0 {
			b[r.Intn(len(b))] ^= 1 << r.Intn(8)
			k.must(k.hot.Put(name, b))
		}
	case 3:
		k.must(k.hot.Put(name, k.packs[named(some(r, x))]))
	case 4:
		k.must(k.ice.Put(name, k.packs[name], k.now))
	case 5:
		x.Drop(id)
	case 6:
		x.Move(id, r.Intn(2) == 0)
	case 7:
		list, cold, _ := x.Pack(id)
		x.Drop(id)
		k.must(x.Put(id, cold, list[:r.Intn(len(list)+1)]))
	case 8:
		junk := []byte{byte(r.Intn(3))}
		k.heat(junk)
		k.freeze(junk)
		x.Put(sha.Of(junk), r.Intn(2) == 0, nil)
	}
	k.must(k.Commit(x))
}

// spoiled is a world of many snapshots, of which much was spoiled; its time is its own.
func spoiled(t *testing.T, seed int64, limit int) *kept {
	t.Helper()
	r := rand.New(rand.NewSource(seed))
	k := young(t, limit)
	for range 1 + r.Intn(8) {
		k.step(r)
	}
	for range r.Intn(6) {
		k.spoil(r)
	}
	return k
}

// alike tells that two worlds are the same.
func alike(t *testing.T, seed int64, a, b *world) {
	t.Helper()
	if a.hot.Ops() != b.hot.Ops() || a.ice.Ops() != b.ice.Ops() {
		t.Fatalf("seed %d: %d hot operations, not %d; %d cold ones, not %d", seed, a.hot.Ops(), b.hot.Ops(), a.ice.Ops(), b.ice.Ops())
	}
	if !maps.Equal(maps.Collect(a.hot.All()), maps.Collect(b.hot.All())) || !maps.Equal(maps.Collect(a.ice.All()), maps.Collect(b.ice.All())) {
		t.Fatalf("seed %d: the stores have other things", seed)
	}
	if !bytes.Equal(a.Index().Encode(), b.Index().Encode()) {
		t.Fatalf("seed %d: another index holds", seed)
	}
	if !slices.Equal(slices.Collect(a.Cache().All()), slices.Collect(b.Cache().All())) {
		t.Fatalf("seed %d: the cache is another one", seed)
	}
}

// TestManyWorlds holds all against the chapter, whatever is wrong, and whatever fails: P26.1.
func TestManyWorlds(t *testing.T) {
	ends, sum := map[api.Errno]int{}, map[int]int{}
	for seed := range int64(800) {
		r := rand.New(rand.NewSource(-seed))
		limit := r.Intn(2) * r.Intn(3000)
		k, twin := spoiled(t, seed, limit), spoiled(t, seed, limit)
		a := armed(r, 60)
		got, e := verify.Report{}, api.ErrCrash
		k.do(a, func() { got, e = verify.Check(k.Depot, k.now) })
		want, f := verify.Report{}, api.ErrCrash
		twin.do(a, func() { want, f = twin.checked(k.now) })
		if e != f || !equal(got, want) {
			t.Fatalf("seed %d: %v %d, not %v %d", seed, got, e, want, f)
		}
		ends[e]++
		for what := range verify.All(got) {
			sum[what]++
		}
		alike(t, seed, k.world, twin.world)
		a = armed(r, 20)
		x, e := (*index.Index)(nil), api.ErrCrash
		k.do(a, func() { x, e = verify.Rebuild(k.Depot) })
		y, f := (*index.Index)(nil), api.ErrCrash
		twin.do(a, func() { y, f = twin.rebuilt() })
		if e != f || (x == nil) != (e != api.OK) || e == api.OK && !same(x, y) {
			t.Fatalf("seed %d: Rebuild: %d, not %d", seed, e, f)
		}
		ends[e]++
		alike(t, seed, k.world, twin.world)
		a = armed(r, 20)
		n, e := 0, api.ErrCrash
		k.do(a, func() { n, e = verify.Mend(k.Depot) })
		m, f := 0, api.ErrCrash
		twin.do(a, func() { m, f = twin.mended() })
		if n != m || e != f {
			t.Fatalf("seed %d: Mend: %d %d, not %d %d", seed, n, e, m, f)
		}
		ends[e]++
		alike(t, seed, k.world, twin.world)
	}
	if ends[api.OK] < 600 || ends[api.ErrFault] < 100 || ends[api.ErrCrash] < 100 || ends[api.ErrNone] < 30 || sum[0] < 50 || sum[1] < 30 || sum[2] < 60 {
		t.Errorf("%v, %v", ends, sum)
	}
}
