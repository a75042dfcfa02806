package backup_test

import (
	"maps"
	"math/rand"
	"slices"
	"strconv"
	"strings"
	"testing"

	"coldstore/api"
	"coldstore/backup"
	"coldstore/build"
	"coldstore/chunk"
	"coldstore/depot"
	"coldstore/guard"
	"coldstore/object"
	"coldstore/snap"
)

// added is how many packs, and snapshots, a store has more than it had; and whether its index is another one.
func added(had, has map[string]string) (packs, snaps int, index bool) {
	for name := range has {
		if _, was := had[name]; was {
			continue
		}
		switch {
		case strings.HasPrefix(name, "pack/"):
			packs++
		case strings.HasPrefix(name, "snap/"):
			snaps++
		}
	}
	return packs, snaps, has["index"] != had["index"]
}

// byFault lets the operation behind so many fail.
func byFault(t *testing.T, d *depot.Depot, j backup.Job, n int) *depot.Depot {
	t.Helper()
	d.Hot().Arm(nil, append(make([]bool, n), true))
	failed(t, d, tree(2), j, api.ErrFault)
	d.Hot().Arm(nil, nil)
	return d
}

// byPower lets the power go at the operation behind so many: the depot is opened anew.
func byPower(t *testing.T, d *depot.Depot, j backup.Job, n int) *depot.Depot {
	t.Helper()
	fuse := guard.NewFuse(n)
	d.Hot().Arm(fuse, nil)
	if !fuse.Catch(func() { backup.Run(d, tree(2), j) }) {
		t.Errorf("there are no more than %d operations", n)
	}
	d.Hot().Arm(nil, nil)
	return opened(t, d.Hot())
}

// endedAt holds what a backup did, whose operation behind n had a fault, or where the power went, against what it should do: the packs come first, then the index, then the snapshot.
func endedAt(t *testing.T, j backup.Job, n int, end func(*testing.T, *depot.Depot, backup.Job, int) *depot.Depot) (last bool) {
	t.Helper()
	whole, _ := depots(t, 1<<30)
	first := kept(t, whole, tree(1), job(1))
	had := things(t, whole.Hot())
	second := kept(t, whole, tree(2), j)
	want := things(t, whole.Hot())
	all, _, _ := added(had, want)

	d, hot := depots(t, 1<<30)
	kept(t, d, tree(1), job(1))
	d = end(t, d, j, n)
	packs, snaps, index := added(had, things(t, hot))
	if packs != min(n, all) || index != (n > all) || snaps != 0 {
		t.Errorf("behind %d operations: %d packs of %d, %d snapshots, another index: %v", n, packs, all, snaps, index)
	}
	lists(t, hot, first)
	walked(t, d, first, tree(1))
	// It is done again, and whole.
	if again := kept(t, d, tree(2), j); again != second || !maps.Equal(things(t, hot), want) {
		t.Errorf("behind %d operations: %v, not %v", n, again, second)
	}
	lists(t, hot, first, second)
	for _, d := range []*depot.Depot{d, opened(t, hot)} {
		walked(t, d, first, tree(1))
		walked(t, d, second, tree(2))
	}
	return n == all+1
}

func TestWhatFailsAnywhereIsNotListed(t *testing.T) {
	for _, target := range []int{1, 100, 1 << 20} {
		j := job(2)
		j.Target = target
		for i, end := range []func(*testing.T, *depot.Depot, backup.Job, int) *depot.Depot{byFault, byPower} {
			n := 0
			for !endedAt(t, j, n, end) {
				n++
			}
			if n < 2 || target == 1 && n < 5 {
				t.Errorf("way %d: %d operations", i, n)
			}
		}
	}
}

func TestNoRoom(t *testing.T) {
	all, n := byHand(t, tree(1), job(5))
	need := 0
	for _, b := range all {
		need += len(b)
	}
	for quota := range need + 2 {
		if quota%40 > 0 && quota < need-40 {
			continue
		}
		d, hot := depots(t, quota)
		if quota < need {
			failed(t, d, tree(1), job(5), api.ErrQuota)
			lists(t, hot)
			continue
		}
		kept(t, d, tree(1), job(5))
		lists(t, hot, n)
		walked(t, d, n, tree(1))
	}
}

// keeper is a depot, and what it should have: files by their snapshots' names.
type keeper struct {
	depot *depot.Depot
	hot   *object.Store
	files map[string][]api.File
	snaps map[string]snap.Snap
}

// sorted is all that should be listed.
func (k *keeper) sorted() []backup.Named {
	names := map[snap.Snap]string{}
	for name, s := range k.snaps {
		names[s] = name
	}
	var list []backup.Named
	for _, s := range snap.Sort(slices.Collect(maps.Values(k.snaps))) {
		list = append(list, backup.Named{Name: names[s], Snap: s})
	}
	return list
}

// chosen is right files, of which many come again and again.
func chosen(r *rand.Rand) []api.File {
	var list []api.File
	for _, p := range []string{"a", "b/a", "b/b/a", "b/b/b", "c"} {
		f := api.File{Path: p, Data: []byte(strings.Repeat(strconv.Itoa(r.Intn(3)), r.Intn(300)))}
		if r.Intn(20) == 0 {
			f.Data = make([]byte, r.Intn(2000))
			r.Read(f.Data)
		}
		if r.Intn(3) > 0 {
			list = append(list, f)
		}
	}
	if r.Intn(20) == 0 {
		list = append(list, api.File{Path: "/"})
	}
	return list
}

// wanted is a job, right or not.
func wanted(r *rand.Rand) backup.Job {
	j := backup.Job{Time: int64(r.Intn(9)) - int64(r.Intn(20)/19)*9, Host: string(rune('a' + r.Intn(2))), Target: r.Intn(600) - 50}
	j.Cut = chunk.Params{Min: 20, Max: 20 + r.Intn(200), Bits: r.Intn(6), Width: 1 + r.Intn(64), Seed: uint64(r.Intn(2))}
	switch r.Intn(20) {
	case 0:
		j.Cut.Min = 0
	case 1:
		j.Host = ""
	default:
		j.Tag = []string{"", "x"}[r.Intn(2)]
	}
	return j
}

// refusal is the error that a backup has ahead of every operation.
func refusal(files []api.File, j backup.Job) api.Errno {
	if e := build.Check(files); e != api.OK {
		return e
	}
	if _, e := chunk.New(j.Cut); e != api.OK {
		return e
	}
	return snap.Check(snap.Snap{Time: j.Time, Host: j.Host, Tag: j.Tag})
}

// back does a backup, armed somehow: its error (ErrCrash: the power went).
func (k *keeper) back(t *testing.T, r *rand.Rand) api.Errno {
	t.Helper()
	files, j := chosen(r), wanted(r)
	fuse := guard.NewFuse(-1)
	var faults []bool
	switch r.Intn(4) {
	case 0:
		faults = append(make([]bool, r.Intn(6)), true)
	case 1:
		fuse = guard.NewFuse(r.Intn(6))
	}
	k.hot.Arm(fuse, faults)
	var n backup.Named
	var e api.Errno
	if fuse.Catch(func() { n, e = backup.Run(k.depot, files, j) }) {
		e = api.ErrCrash
		k.hot.Arm(nil, nil)
		k.depot = opened(t, k.hot)
	}
	k.hot.Arm(nil, nil)
	may := []api.Errno{refusal(files, j)}
	if may[0] == api.OK {
		may = append(may, api.ErrQuota)
		if len(faults) > 0 {
			may = append(may, api.ErrFault)
		}
		if fuse.Left() == 0 {
			may = append(may, api.ErrCrash)
		}
	}
	if !slices.Contains(may, e) {
		t.Fatalf("%d, not one of %v", e, may)
	}
	if e == api.OK {
		k.files[n.Name], k.snaps[n.Name] = files, n.Snap
	} else if n != (backup.Named{}) {
		t.Fatalf("%v beside %d", n, e)
	}
	return e
}

// holds tells that all that should be listed is, and one of it is walked.
func (k *keeper) holds(t *testing.T, r *rand.Rand) {
	t.Helper()
	all := k.sorted()
	lists(t, k.hot, all...)
	if len(all) > 0 {
		n := all[r.Intn(len(all))]
		walked(t, k.depot, n, k.files[n.Name])
	}
	if t.Failed() {
		t.FailNow()
	}
}

func TestEveryOrder(t *testing.T) {
	r := rand.New(rand.NewSource(20))
	errors := map[api.Errno]int{}
	for range 80 {
		d, hot := depots(t, 3000+r.Intn(30000))
		k := &keeper{d, hot, map[string][]api.File{}, map[string]snap.Snap{}}
		for range 50 {
			switch r.Intn(10) {
			case 0:
				k.depot = opened(t, hot)
			case 1:
				// What is no snapshot makes no difference.
				hot.Put("snap/"+strconv.Itoa(r.Intn(9)), []byte("junk"))
			default:
				errors[k.back(t, r)]++
			}
			k.holds(t, r)
		}
		k.depot = opened(t, hot)
		for _, n := range k.sorted() {
			walked(t, k.depot, n, k.files[n.Name])
		}
	}
	for _, e := range []api.Errno{api.OK, api.ErrFault, api.ErrCrash, api.ErrQuota, api.ErrArg, api.ErrRange, api.ErrPath} {
		if errors[e] < 20 {
			t.Errorf("%d was answered %d times", e, errors[e])
		}
	}
}
