package backup_test

import (
	"bytes"
	"crypto/sha256"
	"encoding/hex"
	"maps"
	"math"
	"slices"
	"strconv"
	"strings"
	"testing"

	"coldstore/api"
	"coldstore/backup"
	"coldstore/build"
	"coldstore/chunk"
	"coldstore/cold"
	"coldstore/depot"
	"coldstore/guard"
	"coldstore/object"
	"coldstore/snap"
	"coldstore/walk"
)

// cut is a right way of cutting.
var cut = chunk.Params{Min: 4, Max: 40, Bits: 3, Width: 8, Seed: 7}

// job is a right job at a time.
func job(time int64) backup.Job {
	return backup.Job{Time: time, Host: "home", Tag: "daily", Cut: cut, Target: 200}
}

// tree is right files; those of unlike kinds have some chunks that are the same.
func tree(kind int) []api.File {
	text := []byte(strings.Repeat("some text that is kept, ", 10) + strconv.Itoa(kind))
	return []api.File{
		{Path: "a", Data: text},
		{Path: "b/c", Data: []byte(strconv.Itoa(kind))},
		{Path: "b/d/e"},
		{Path: "b/f", Data: slices.Clone(text[50:])},
	}
}

// depots is a depot of a hot store with a quota, which has nothing, and that store.
func depots(t *testing.T, quota int) (*depot.Depot, *object.Store) {
	t.Helper()
	hot, e := object.New(quota)
	if e != api.OK {
		t.Fatal(e)
	}
	return opened(t, hot), hot
}

// opened is a depot of a hot store, and of a cold one that has nothing.
func opened(t *testing.T, hot *object.Store) *depot.Depot {
	t.Helper()
	away, e := cold.New(0, 1, 1, 0)
	d, f := depot.Open(hot, away, 500)
	if e != api.OK || f != api.OK {
		t.Fatal(e, f)
	}
	return d
}

// named is the name of a snapshot's bytes, whatever they are.
func named(b []byte) string {
	sum := sha256.Sum256(b)
	return "snap/" + hex.EncodeToString(sum[:])
}

// things is a store's things by their names.
func things(t *testing.T, s *object.Store) map[string]string {
	t.Helper()
	all := map[string]string{}
	for name, size := range s.All() {
		b, e := s.Get(name)
		if e != api.OK || len(b) != size {
			t.Fatalf("%s: %d", name, e)
		}
		all[name] = string(b)
	}
	return all
}

// kept is what Run tells, which must have no error.
func kept(t *testing.T, d *depot.Depot, files []api.File, j backup.Job) backup.Named {
	t.Helper()
	n, e := backup.Run(d, files, j)
	if e != api.OK {
		t.Fatalf("Run: %d", e)
	}
	return n
}

// failed tells that Run has an error, and nothing else.
func failed(t *testing.T, d *depot.Depot, files []api.File, j backup.Job, want api.Errno) {
	t.Helper()
	if n, e := backup.Run(d, files, j); e != want || n != (backup.Named{}) {
		t.Errorf("Run: %v %d, not %d", n, e, want)
	}
}

// lists tells which snapshots a store has, in order.
func lists(t *testing.T, s *object.Store, want ...backup.Named) {
	t.Helper()
	if got, e := backup.List(s); e != api.OK || !slices.Equal(got, want) {
		t.Errorf("List: %v %d, not %v", got, e, want)
	}
}

// walked tells which files a snapshot has.
func walked(t *testing.T, d *depot.Depot, n backup.Named, want []api.File) {
	t.Helper()
	if s, e := backup.Load(d.Hot(), n.Name); e != api.OK || s != n.Snap {
		t.Errorf("Load of %v: %v %d", n, s, e)
	}
	got, e := walk.Files(n.Snap.Root, func(id api.ID) ([]byte, api.Errno) { return d.Load(id, 0) })
	if e != api.OK || !same(got, want) {
		t.Errorf("%v: %d, %d files, not %d", n, e, len(got), len(want))
	}
}

// same tells whether two lists have the same files.
func same(a, b []api.File) bool {
	return slices.EqualFunc(a, b, func(f, g api.File) bool { return f.Path == g.Path && bytes.Equal(f.Data, g.Data) })
}

// byHand is a store's things behind a backup, and its snapshot, as the layers below make them.
func byHand(t *testing.T, files []api.File, j backup.Job) (map[string]string, backup.Named) {
	t.Helper()
	d, hot := depots(t, 1<<30)
	cutter, e := chunk.New(j.Cut)
	saver := d.Saver(j.Target)
	root, f := build.Build(files, cutter.Split, saver.Add)
	if e != api.OK || f != api.OK || saver.Done() != api.OK {
		t.Fatal(e, f)
	}
	s := snap.Snap{Time: j.Time, Host: j.Host, Tag: j.Tag, Root: root, Files: len(files)}
	for _, f := range files {
		s.Bytes += int64(len(f.Data))
	}
	b, e := snap.Encode(s)
	if e != api.OK {
		t.Fatal(e)
	}
	all := things(t, hot)
	all[named(b)] = string(b)
	return all, backup.Named{Name: named(b), Snap: s}
}

func TestRunKeepsFiles(t *testing.T) {
	deep := strings.Repeat("a/", 59) + "b"
	for i, files := range [][]api.File{
		tree(1),
		nil,
		{},
		{{Path: "a"}},
		{{Path: deep, Data: []byte("x")}},
		{{Path: strings.Repeat("z", 40), Data: bytes.Repeat([]byte("data"), 10000)}},
	} {
		for _, target := range []int{math.MinInt, -1, 0, 1, 200, 5000, math.MaxInt} {
			j := job(int64(i))
			j.Target = target
			want, n := byHand(t, files, j)
			d, hot := depots(t, 1<<30)
			if got := kept(t, d, files, j); got != n {
				t.Errorf("%v, not %v", got, n)
			}
			// Each pack, the index and the snapshot is put once.
			if hot.Ops() != 1+len(want) {
				t.Errorf("%d operations, not %d", hot.Ops()-1, len(want))
			}
			if got := things(t, hot); !maps.Equal(got, want) {
				t.Errorf("%d things, not %d", len(got), len(want))
			}
			lists(t, hot, n)
			walked(t, d, n, files)
			walked(t, opened(t, hot), n, files)
		}
	}
}

func TestAJobsFieldsAtTheirEdges(t *testing.T) {
	long := strings.Repeat("z", 40)
	for _, turn := range []func(*backup.Job){
		func(j *backup.Job) { j.Time = 0 },
		func(j *backup.Job) { j.Time = 1 << 50 },
		func(j *backup.Job) { j.Host, j.Tag = long, long },
		func(j *backup.Job) { j.Host, j.Tag = "a", "" },
		func(j *backup.Job) { j.Cut = chunk.Params{Min: 1, Max: 1, Width: 1} },
		func(j *backup.Job) { j.Cut = chunk.Params{Min: 1 << 16, Max: 1 << 16, Bits: 20, Width: 64} },
	} {
		j := job(5)
		turn(&j)
		d, hot := depots(t, 1<<30)
		n := kept(t, d, tree(1), j)
		if s := n.Snap; s.Time != j.Time || s.Host != j.Host || s.Tag != j.Tag || s.Files != 4 {
			t.Errorf("%v: %v", j, s)
		}
		lists(t, hot, n)
		walked(t, d, n, tree(1))
	}
}

func TestWhatIsThereAlreadyIsNotPutAgain(t *testing.T) {
	d, hot := depots(t, 1<<30)
	first := kept(t, d, tree(1), job(5))
	all, ops := things(t, hot), hot.Ops()
	// The same files, kept twice at one time, are one snapshot.
	if again := kept(t, d, tree(1), job(5)); again != first || hot.Ops() != ops+1 || !maps.Equal(things(t, hot), all) {
		t.Errorf("%v, not %v", again, first)
	}
	lists(t, hot, first)
	// At another time they are another one, of the same blobs.
	ops = hot.Ops()
	later := kept(t, d, tree(1), job(6))
	if hot.Ops() != ops+1 || hot.Len() != len(all)+1 || later.Name == first.Name || later.Snap.Root != first.Snap.Root {
		t.Errorf("%v", later)
	}
	lists(t, hot, first, later)
	// Of other files just the blobs are put that aren't there: each is in one pack, once.
	others := kept(t, d, tree(2), job(7))
	x, n := d.Index(), 0
	for id := range x.Packs() {
		list, _, _ := x.Pack(id)
		n += len(list)
	}
	_, apart := byHand(t, tree(2), job(7))
	if n != len(slices.Collect(x.Blobs())) || others != apart {
		t.Errorf("%d blobs in packs; %v, not %v", n, others, apart)
	}
	lists(t, hot, first, later, others)
	for _, n := range []backup.Named{first, later} {
		walked(t, d, n, tree(1))
	}
	walked(t, d, others, tree(2))
}

func TestWrongArguments(t *testing.T) {
	noPath, tooLong := []api.File{{Path: "/"}}, []api.File{{Path: "a", Data: make([]byte, 1<<20+1)}}
	for i, c := range []struct {
		files []api.File
		turn  func(*backup.Job)
		want  api.Errno
	}{
		{make([]api.File, 513), nil, api.ErrMany},
		{noPath, nil, api.ErrPath},
		{tooLong, nil, api.ErrLong},
		{[]api.File{{Path: "b"}, {Path: "a"}}, nil, api.ErrOrder},
		{[]api.File{{Path: "a"}, {Path: "a"}}, nil, api.ErrOrder},
		{[]api.File{{Path: "a"}, {Path: "a/b"}}, nil, api.ErrForm},
		{nil, func(j *backup.Job) { j.Cut = chunk.Params{} }, api.ErrArg},
		{nil, func(j *backup.Job) { j.Cut.Min = 0 }, api.ErrArg},
		{nil, func(j *backup.Job) { j.Cut.Min = j.Cut.Max + 1 }, api.ErrArg},
		{nil, func(j *backup.Job) { j.Cut.Max = 1<<16 + 1 }, api.ErrArg},
		{nil, func(j *backup.Job) { j.Cut.Bits = 21 }, api.ErrArg},
		{nil, func(j *backup.Job) { j.Cut.Width = 65 }, api.ErrArg},
		{nil, func(j *backup.Job) { j.Time = -1 }, api.ErrRange},
		{nil, func(j *backup.Job) { j.Time = 1<<50 + 1 }, api.ErrRange},
		{nil, func(j *backup.Job) { j.Host = "" }, api.ErrPath},
		{nil, func(j *backup.Job) { j.Host = "a/b" }, api.ErrPath},
		{nil, func(j *backup.Job) { j.Host = strings.Repeat("a", 41) }, api.ErrPath},
		{nil, func(j *backup.Job) { j.Tag = "A" }, api.ErrPath},
		{nil, func(j *backup.Job) { j.Tag = ".." }, api.ErrPath},
		// Of several errors the one of files comes first, then that of cutting, then that of the snapshot.
		{tooLong, func(j *backup.Job) { j.Cut.Min, j.Time = 0, -1 }, api.ErrLong},
		{noPath, func(j *backup.Job) { j.Cut.Min = 0 }, api.ErrPath},
		{noPath, func(j *backup.Job) { j.Time = -1 }, api.ErrPath},
		{tree(1), func(j *backup.Job) { j.Cut.Min, j.Time, j.Host = 0, -1, "" }, api.ErrArg},
		{tree(1), func(j *backup.Job) { j.Time, j.Host = -1, "" }, api.ErrRange},
	} {
		j := job(5)
		if c.turn != nil {
			c.turn(&j)
		}
		d, hot := depots(t, 1<<30)
		n := kept(t, d, tree(1), job(1))
		ops := hot.Ops()
		// A fault would be the error of an operation.
		hot.Arm(guard.NewFuse(0), []bool{true})
		failed(t, d, c.files, j, c.want)
		if hot.Ops() != ops {
			t.Errorf("case %d: %d operations", i, hot.Ops()-ops)
		}
		hot.Arm(nil, nil)
		lists(t, hot, n)
	}
}

// pairs is as many pairs of bytes, all of them unlike.
func pairs(n int) []byte {
	var b []byte
	for i := range n {
		b = append(b, byte(i>>8), byte(i))
	}
	return b
}

func TestWhatBuildingHasNoRoomFor(t *testing.T) {
	byTwo := job(5)
	byTwo.Cut = chunk.Params{Min: 2, Max: 2, Width: 1}
	for _, c := range []struct {
		n, target int
		want      api.Errno
	}{
		// A tree's bytes that are a blob, or too long for one.
		{2047, 1 << 17, api.OK},
		{2048, 1 << 17, api.ErrLong},
		// More chunks than a file's node has, or than a pack has that isn't put.
		{4097, 1 << 17, api.ErrMany},
		{4097, 1 << 20, api.ErrMany},
	} {
		j := byTwo
		j.Target = c.target
		d, hot := depots(t, 1<<30)
		files := []api.File{{Path: "a", Data: pairs(c.n)}}
		if c.want != api.OK {
			failed(t, d, files, j, c.want)
			lists(t, hot)
			continue
		}
		n := kept(t, d, files, j)
		lists(t, hot, n)
		walked(t, d, n, files)
	}
}

func TestFilesAreNeitherTurnedNorKept(t *testing.T) {
	d, hot := depots(t, 1<<30)
	files := tree(1)
	for i := range files {
		files[i].Data = append(files[i].Data, "behind"...)[:len(files[i].Data)]
	}
	n := kept(t, d, files, job(5))
	for i, f := range files {
		whole := string(f.Data[:len(f.Data)+len("behind")])
		if whole != string(tree(1)[i].Data)+"behind" || f.Path != tree(1)[i].Path {
			t.Errorf("%s was turned", f.Path)
		}
		clear(f.Data)
	}
	clear(files)
	lists(t, hot, n)
	walked(t, d, n, tree(1))
}
