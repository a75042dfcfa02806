package verify_test

import (
	"bytes"
	"maps"
	"math/rand"
	"slices"
	"strings"
	"testing"

	"coldstore/api"
	"coldstore/backup"
	"coldstore/chunk"
	"coldstore/forget"
	"coldstore/index"
	"coldstore/pack"
	"coldstore/prune"
	"coldstore/retain"
	"coldstore/tier"
	"coldstore/verify"
	"coldstore/walk"
)

// kept is a world, and what it should have: files by their snapshots' names, and the bytes of all packs; and its time.
type kept struct {
	*world
	files map[string][]api.File
	packs map[string][]byte
	now   int64
	ends  map[api.Errno]int
}

// young is a kept world that has nothing.
func young(t *testing.T, limit int) *kept {
	t.Helper()
	return &kept{worldOf(t, 1<<26, limit), map[string][]api.File{}, map[string][]byte{}, 0, map[api.Errno]int{}}
}

// chosen is right files, of which many come again and again.
func chosen(r *rand.Rand) []api.File {
	var list []api.File
	for _, p := range []string{"a", "b/a", "b/b/a", "c"} {
		f := api.File{Path: p, Data: bytes.Repeat([]byte{'0' + byte(r.Intn(4))}, r.Intn(60))}
		if r.Intn(3) == 0 {
			f.Data = make([]byte, r.Intn(60))
			r.Read(f.Data)
		}
		if r.Intn(4) > 0 {
			list = append(list, f)
		}
	}
	return list
}

// armed is arms, one of many, of operations of which there are about so many.
func armed(r *rand.Rand, n int) arms {
	a := arms{power: -1}
	switch r.Intn(4) {
	case 0:
		a.power = r.Intn(n)
	case 1:
		a.hot = append(make([]bool, r.Intn(n)), true)
	case 2:
		a.ice = append(make([]bool, r.Intn(6)), true)
	}
	return a
}

// save keeps files as a snapshot, in packs of few blobs.
func (k *kept) save(r *rand.Rand) api.Errno {
	files := chosen(r)
	j := backup.Job{Time: k.now, Host: string('a' + rune(r.Intn(2))), Target: r.Intn(400), Cut: chunk.Params{Min: 8, Max: 20, Bits: 3, Width: 4}}
	n, e := backup.Run(k.Depot, files, j)
	if e == api.OK {
		k.files[n.Name] = files
	}
	return e
}

// forget forgets some of the snapshots.
func (k *kept) forget(r *rand.Rand) api.Errno {
	_, e := forget.Run(k.hot, []string{"", "a", "b"}[r.Intn(3)], retain.Policy{Last: 1 + r.Intn(4)})
	return e
}

// move moves packs, or ends what was begun.
func (k *kept) move(r *rand.Rand) api.Errno {
	if r.Intn(3) == 0 {
		_, e := tier.Recover(k.Depot, k.now)
		return e
	}
	_, e := tier.Run(k.Depot, int64(r.Intn(6)), k.now)
	return e
}

// prune lets packs without use go.
func (k *kept) prune(r *rand.Rand) api.Errno {
	_, e := prune.Run(k.Depot, k.now, []int{0, 20, 100}[r.Intn(3)], r.Intn(400), r.Intn(4) == 0)
	return e
}

// step does one of all that, whatever fails.
func (k *kept) step(r *rand.Rand) {
	k.t.Helper()
	k.now += int64(r.Intn(6))
	e := api.ErrCrash
	a := armed(r, 25)
	steps := []func(*rand.Rand) api.Errno{k.save, k.save, k.forget, k.prune, k.move}
	does := steps[r.Intn(len(steps))]
	k.do(a, func() { e = does(r) })
	k.ends[e]++
	k.know()
}

// know keeps the bytes of all hot packs, and forgets the files of what isn't listed.
func (k *kept) know() {
	k.t.Helper()
	for name := range k.hot.All() {
		if strings.HasPrefix(name, "pack/") {
			b, e := k.hot.Get(name)
			k.must(e)
			k.packs[name] = b
		}
	}
	list, e := backup.List(k.hot)
	k.must(e)
	is := map[string]struct{}{}
	for _, n := range list {
		is[n.Name] = struct{}{}
		if _, known := k.files[n.Name]; !known {
			k.t.Fatal("what wasn't kept is listed")
		}
	}
	maps.DeleteFunc(k.files, func(name string, _ []api.File) bool {
		_, listed := is[name]
		return !listed
	})
}

// blob is a blob from its place in an index, whether it is thawed or not, if the store that the index names has its pack.
func (k *kept) blob(x *index.Index, id api.ID) ([]byte, api.Errno) {
	p, found := x.Find(id)
	hot, ice := k.things()
	if _, is := hot[named(p.Pack)]; found && !p.Cold && !is {
		found = false
	}
	if _, is := ice[named(p.Pack)]; found && p.Cold && !is {
		found = false
	}
	if !found {
		return nil, api.ErrNone
	}
	return pack.Blob(k.packs[named(p.Pack)], pack.Entry{ID: id, Off: p.Off, Len: p.Len})
}

// finds tells that all that is listed is found by an index, and walked as it was.
func (k *kept) finds(x *index.Index) {
	k.t.Helper()
	list, e := backup.List(k.hot)
	k.must(e)
	if len(list) != len(k.files) {
		k.t.Fatalf("%d of %d are listed", len(list), len(k.files))
	}
	for _, n := range list {
		got, e := walk.Files(n.Snap.Root, func(id api.ID) ([]byte, api.Errno) { return k.blob(x, id) })
		want := k.files[n.Name]
		if e != api.OK || !slices.EqualFunc(got, want, func(f, g api.File) bool { return f.Path == g.Path && bytes.Equal(f.Data, g.Data) }) {
			k.t.Fatalf("%s: %d files of %d, %d", n.Name, len(got), len(want), e)
		}
	}
}

// whole tells that nothing is missing, lost or bad, and that an index that is built anew finds all.
func (k *kept) whole() {
	k.t.Helper()
	if r, e := verify.Check(k.Depot, k.now); e != api.OK || !verify.Good(r) {
		k.t.Fatalf("%d are missing, %d lost, %d bad, %d", len(r.Missing), len(r.Lost), len(r.Bad), e)
	}
	k.finds(k.Index())
	x, e := verify.Rebuild(k.Depot)
	k.must(e)
	k.finds(x)
}

// TestWhateverFailed is P26.2.
func TestWhateverFailed(t *testing.T) {
	ends := map[api.Errno]int{}
	mended, cold, snaps := 0, 0, 0
	for seed := range int64(150) {
		r := rand.New(rand.NewSource(seed))
		k := young(t, r.Intn(2)*r.Intn(3000))
		k.ends = ends
		for range 12 {
			k.step(r)
			k.whole()
			if r.Intn(4) > 0 {
				continue
			}
			// The index that is built anew holds from then on.
			n, e := 0, api.ErrCrash
			k.do(armed(r, 20), func() { n, e = verify.Mend(k.Depot) })
			if e != api.OK && n != 0 {
				t.Fatalf("seed %d: %d, %d", seed, n, e)
			}
			mended += n
			k.whole()
		}
		for _, isCold := range k.Index().Packs() {
			if isCold {
				cold++
			}
		}
		snaps += len(k.files)
	}
	if ends[api.OK] < 1000 || ends[api.ErrFault] < 100 || ends[api.ErrCrash] < 100 || mended < 1000 || cold < 150 || snaps < 300 {
		t.Errorf("%v, %d, %d, %d", ends, mended, cold, snaps)
	}
}

// TestAnIndexThatIsGone builds it anew, where all is hot, from packs alone.
func TestAnIndexThatIsGone(t *testing.T) {
	had := 0
	for seed := range int64(60) {
		r := rand.New(rand.NewSource(seed))
		k := young(t, 0)
		for range 8 {
			k.now++
			steps := []func(*rand.Rand) api.Errno{k.save, k.save, k.forget, k.prune}
			does := steps[r.Intn(len(steps))]
			k.do(armed(r, 40), func() { does(r) })
			k.know()
			k.hot.Drop("index")
			k.reopen()
			n, e := verify.Mend(k.Depot)
			k.must(e)
			if n != k.Index().Len() {
				t.Fatalf("seed %d: %d packs, not %d", seed, k.Index().Len(), n)
			}
			k.whole()
		}
		had += len(k.files)
	}
	if had < 100 {
		t.Error(had)
	}
}
