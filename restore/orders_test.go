package restore_test

import (
	"math/rand"
	"slices"
	"strconv"
	"testing"

	"coldstore/api"
	"coldstore/backup"
	"coldstore/chunk"
	"coldstore/depot"
	"coldstore/guard"
	"coldstore/pack"
	"coldstore/prune"
	"coldstore/restore"
	"coldstore/tier"
	"coldstore/walk"
)

func TestAStepThatIsCutShort(t *testing.T) {
	// The root, and two packs are asked for; then the root, two packs, the root again, and a hot pack.
	const first, second = "hcc", "hcchh"
	for n := range len(second) + 1 {
		for want, a := range map[api.Errno]arms{api.ErrFault: failing(second, n), api.ErrCrash: {power: n}} {
			w := empty(t)
			root := dir(t, file("a", "1", "hot", "2"))
			w.save(root)
			w.save("hot")
			order := []string{"1", "2"}
			if packs := []api.ID{w.freeze("1"), w.freeze("2")}; !slices.Equal(packs, sorted(packs...)) {
				slices.Reverse(order)
			}
			g := w.begin(root, 100)
			g.step(0, 9, 3, false, api.OK, 1, 2)
			if n == len(second) {
				want = api.OK
			}
			if done, e := w.do(a, func() (bool, api.Errno) { return g.Step(3, 9, 3) }); done != (want == api.OK) || e != want {
				t.Errorf("behind %d: %v %d, not %d", n, done, e, want)
			}
			if want != api.OK {
				g.has()
			}
			// What was staged stays, and is got no more.
			staged := max(min(n, 3)-1, 0)
			g.stands(2, order[:staged]...)
			if want != api.OK {
				g.step(3, 9, 3, true, api.OK, 3, 2-staged)
			}
			g.has("a", "1hot2")
			g.stands(2, "1", "2")
		}
	}
	for n := range len(first) {
		w := empty(t)
		root := dir(t, file("a", "1", "2"))
		w.save(root)
		packs := sorted(w.freeze("1"), w.freeze("2"))
		g := w.begin(root, 100)
		if done, e := w.do(failing(first, n), func() (bool, api.Errno) { return g.Step(0, 9, 3) }); done || e != api.ErrFault {
			t.Errorf("behind %d: %v %d", n, done, e)
		}
		g.stands(max(n-1, 0))
		for i, id := range packs {
			if w.ice.State(named(id), 0) == 1 != (i < n-1) {
				t.Errorf("behind %d: the pack at %d", n, i)
			}
		}
		g.step(0, 9, 3, false, api.OK, 1, 2-max(n-1, 0))
		g.step(3, 9, 3, true, api.OK, 2, 2)
		g.stands(2, "1", "2")
	}
}

func TestThePowerGoesThrough(t *testing.T) {
	for n := range 3 {
		w := empty(t)
		root := dir(t, file("a", "1", "2"))
		w.save(root)
		w.freeze("1")
		w.freeze("2")
		g := w.begin(root, 100)
		fuse := guard.NewFuse(n)
		w.hot.Arm(fuse, nil)
		w.ice.Arm(fuse, nil)
		through := true
		blew := fuse.Catch(func() {
			guard.Run(func() { g.Step(0, 9, 3) })
			through = false
		})
		if !blew || !through {
			t.Errorf("behind %d: %v %v", n, blew, through)
		}
	}
}

// model does what the chapter says of a restore, operation by operation.
type model struct {
	*world
	root   api.ID
	room   int
	staged map[api.ID][]byte
	size   int
	asked  int
	done   bool
	files  []api.File
}

// load is a blob from the depot at a time.
func (w *world) load(now int64) func(api.ID) ([]byte, api.Errno) {
	return func(id api.ID) ([]byte, api.Errno) { return w.Load(id, now) }
}

// needed is the needed blobs, and the packs that these need.
func (m *model) needed(sums []api.ID) (blobs, packs []api.ID) {
	for _, id := range sums {
		p, found := m.Index().Find(id)
		if _, staged := m.staged[id]; found && p.Cold && !staged {
			blobs, packs = append(blobs, id), append(packs, p.Pack)
		}
	}
	return blobs, slices.Compact(sorted(packs...))
}

// stage stages the blobs of a thawed pack; it throws the error.
func (m *model) stage(id api.ID, blobs []api.ID, now int64) {
	b := guard.Value(m.ice.Get(named(id), now))
	for _, blob := range blobs {
		p, _ := m.Index().Find(blob)
		if p.Pack != id {
			continue
		}
		bytes := guard.Value(pack.Blob(b, pack.Entry{ID: blob, Off: p.Off, Len: p.Len}))
		if m.size+len(bytes) > m.room {
			panic(api.ErrFull)
		}
		m.staged[blob] = bytes
		m.size += len(bytes)
	}
}

// ask asks for packs; it throws the error.
func (m *model) ask(packs []api.ID, batch int, now, wait int64) {
	for _, id := range packs {
		if batch <= 0 || m.ice.State(named(id), now) > 0 {
			continue
		}
		e := m.ice.Request(named(id), now, wait)
		if e == api.ErrJobs {
			return
		}
		guard.Must(e)
		m.asked++
		batch--
	}
}

// Step goes on.
func (m *model) Step(now int64, batch int, wait int64) (bool, api.Errno) {
	if m.done {
		return true, api.OK
	}
	e := guard.Run(func() {
		sums := guard.Value(walk.Sums(m.root, m.load(now)))
		blobs, packs := m.needed(sums)
		for _, id := range packs {
			if m.ice.State(named(id), now) == 2 {
				m.stage(id, blobs, now)
			}
		}
		if blobs, packs = m.needed(sums); len(blobs) > 0 {
			m.ask(packs, batch, now, wait)
			return
		}
		m.files = guard.Value(walk.Files(m.root, func(id api.ID) ([]byte, api.Errno) {
			if b, staged := m.staged[id]; staged {
				return b, api.OK
			}
			return m.Load(id, now)
		}))
		m.done = true
	})
	return m.done, e
}

// chosen is right files, of which many come again and again.
func chosen(r *rand.Rand) []api.File {
	var list []api.File
	for _, p := range []string{"a", "b/a", "b/b/a", "c"} {
		f := api.File{Path: p}
		for range r.Intn(60) {
			f.Data = append(f.Data, '0'+byte(r.Intn(3)))
		}
		if r.Intn(5) > 0 {
			list = append(list, f)
		}
	}
	return list
}

// kept is a world of some snapshots, whose packs were moved, but those of the last ones; and each one's root, and files.
func kept(t *testing.T, seed int64) (*world, []api.ID, [][]api.File) {
	t.Helper()
	r := rand.New(rand.NewSource(seed))
	w := worldOf(t, 1+r.Intn(4), int64(1+r.Intn(6)), r.Intn(2)*r.Intn(2000))
	var roots []api.ID
	var all [][]api.File
	for now := range int64(1 + r.Intn(4)) {
		files := chosen(r)
		j := backup.Job{Time: now, Host: "h", Target: r.Intn(100), Cut: chunk.Params{Min: 6, Max: 20, Bits: 3, Width: 4}}
		n, e := backup.Run(w.Depot, files, j)
		w.must(e)
		roots, all = append(roots, n.Snap.Root), append(all, files)
		_, e = tier.Run(w.Depot, int64(r.Intn(2)), now)
		w.must(e)
	}
	return w, roots, all
}

// armed is arms, one of many, of operations of which there are about so many.
func armed(r *rand.Rand, n int) arms {
	a := arms{power: -1}
	switch r.Intn(9) {
	case 0:
		a.power = r.Intn(n)
	case 1:
		a.hot = append(make([]bool, r.Intn(n)), true)
	case 2:
		a.ice = append(make([]bool, r.Intn(6)), true)
	}
	return a
}

// reopen opens a world's depot anew.
func (w *world) reopen() {
	w.t.Helper()
	d, e := depot.Open(w.hot, w.ice, 0)
	w.must(e)
	w.Depot = d
}

// between is what comes between two steps: a job fails, a pack is thawed for somebody else, or is gone, or all is pruned, and more may be moved.
func (w *world) between(r *rand.Rand, now int64) {
	w.t.Helper()
	all := w.ids()
	id := all[r.Intn(len(all))]
	switch r.Intn(20) {
	case 0:
		w.ice.Fail(named(id), now)
	case 1:
		w.ice.Request(named(id), now, int64(r.Intn(5)))
	case 2:
		if r.Intn(9) == 0 {
			w.ice.Drop(named(id), now, true)
		}
	case 3:
		_, e := tier.Run(w.Depot, 0, now)
		w.must(e)
	case 4:
		_, e := prune.Run(w.Depot, now, 0, 100, false)
		w.must(e)
	}
}

// TestManyRestores holds restores against the chapter, step by step, whatever comes between, and whatever fails: P25.1.
func TestManyRestores(t *testing.T) {
	ends, asked, had := map[api.Errno]int{}, 0, 0
	for seed := range int64(200) {
		r := rand.New(rand.NewSource(-seed))
		w, roots, all := kept(t, seed)
		twin, _, _ := kept(t, seed)
		chosen, room := r.Intn(len(roots)), 1000
		if r.Intn(4) == 0 {
			room = r.Intn(100)
		}
		g := restore.New(w.Depot, roots[chosen], room)
		m := &model{world: twin, root: roots[chosen], room: room, staged: map[api.ID][]byte{}}
		now := int64(len(roots))
		for range 20 {
			now += int64(r.Intn(3))
			more := r.Int63()
			w.between(rand.New(rand.NewSource(more)), now)
			twin.between(rand.New(rand.NewSource(more)), now)
			batch, wait, a := r.Intn(5)-1, int64(r.Intn(6)), armed(r, 12)
			done, e := w.do(a, func() (bool, api.Errno) { return g.Step(now, batch, wait) })
			want, f := twin.do(a, func() (bool, api.Errno) { return m.Step(now, batch, wait) })
			if done != want || e != f {
				t.Fatalf("seed %d: %v %d, not %v %d", seed, done, e, want, f)
			}
			ends[e]++
			if e == api.ErrCrash {
				// What was staged is gone with the power, as the restore is.
				w.reopen()
				twin.reopen()
				g = restore.New(w.Depot, roots[chosen], room)
				m = &model{world: twin, root: roots[chosen], room: room, staged: map[api.ID][]byte{}}
				continue
			}
			agree(t, seed, g, m, w, all[chosen])
		}
		asked += g.Asked()
		if len(g.Files()) > 0 {
			had++
		}
	}
	if ends[api.OK] < 3000 || ends[api.ErrFault] < 60 || ends[api.ErrCrash] < 50 || ends[api.ErrFull] < 60 || ends[api.ErrNone] < 5 || asked < 500 || had < 90 {
		t.Errorf("%v, %d, %d", ends, asked, had)
	}
}

// agree tells that a restore, and its world, are as the model is, and that it has the files that were kept, or none.
func agree(t *testing.T, seed int64, g *restore.Restore, m *model, w *world, files []api.File) {
	t.Helper()
	if g.Asked() != m.asked || g.Staged() != m.size || w.hot.Ops() != m.hot.Ops() || w.ice.Ops() != m.ice.Ops() {
		t.Fatalf("seed %d: %d were asked for, not %d; %d bytes, not %d", seed, g.Asked(), m.asked, g.Staged(), m.size)
	}
	var staged []api.ID
	for id := range m.staged {
		staged = append(staged, id)
	}
	if !slices.Equal(slices.Collect(g.Blobs()), sorted(staged...)) {
		t.Fatalf("seed %d: other blobs are staged", seed)
	}
	if !slices.Equal(slices.Collect(w.Cache().All()), slices.Collect(m.Cache().All())) {
		t.Fatalf("seed %d: the cache is another one", seed)
	}
	got := g.Files()
	if !m.done {
		files = nil
	}
	if !equal(got, m.files) || !equal(got, files) {
		t.Fatalf("seed %d: other files than those that were kept", seed)
	}
}

// TestAsManyStepsAsThereMustBe is P25.2: if nothing fails, and what is thawed lives long enough, each pack that is needed is asked for once, and no other one.
func TestAsManyStepsAsThereMustBe(t *testing.T) {
	for packs := range 8 {
		for jobs := 1; jobs < 5; jobs++ {
			for batch := 1; batch < 5; batch++ {
				for _, wait := range []int64{0, 1, 3} {
					t.Run(strconv.Itoa(packs), func(t *testing.T) { stepsOf(t, packs, jobs, batch, wait) })
				}
			}
		}
	}
}

// stepsOf has a file back whose chunks are in so many packs, step by step, each as soon as something is thawed.
func stepsOf(t *testing.T, packs, jobs, batch int, wait int64) {
	t.Helper()
	w := worldOf(t, jobs, 1, 0)
	var chunks []string
	data := ""
	for i := range packs {
		chunks = append(chunks, strconv.Itoa(i))
		data += strconv.Itoa(i)
		w.freeze(strconv.Itoa(i))
	}
	root := dir(t, file("a", chunks...))
	w.save(root)
	other := w.freeze("nobody's")
	g := w.begin(root, 100)
	asked, steps, most := 0, 0, min(batch, jobs)
	if wait == 0 {
		most = batch
	}
	for now := int64(0); ; now += wait {
		steps++
		ahead := asked
		asked = min(asked+most, packs)
		done, e := g.Step(now, batch, wait)
		if e != api.OK || g.Asked() != asked {
			t.Fatalf("at %d: %d were asked for, not %d, %d", now, g.Asked(), asked, e)
		}
		if done != (ahead == packs) {
			t.Fatalf("behind %d steps: %v", steps, done)
		}
		if done {
			break
		}
	}
	if want := 1 + (packs+most-1)/most; steps != want {
		t.Errorf("%d packs, %d jobs, batches of %d: %d steps, not %d", packs, jobs, batch, steps, want)
	}
	g.has("a", data)
	g.stands(packs, chunks...)
	if w.ice.State(named(other), 0) != 0 {
		t.Error("what isn't needed was asked for")
	}
}
