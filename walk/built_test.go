package walk_test

import (
	"bytes"
	"math/rand"
	"slices"
	"strconv"
	"strings"
	"testing"

	"coldstore/api"
	"coldstore/build"
	"coldstore/chunk"
	"coldstore/sha"
	"coldstore/tree"
	"coldstore/walk"
)

// chosen is right files: some of few paths, with bytes of few kinds.
func chosen(r *rand.Rand) []api.File {
	names := []string{"a", "a-", "a.b", "aa", "b"}
	kinds := [][]byte{nil, {1}, make([]byte, 100), make([]byte, 2000)}
	r.Read(kinds[3])
	var apart [][]string
	for range r.Intn(60) {
		var parts []string
		for range 1 + r.Intn(5) {
			parts = append(parts, names[r.Intn(len(names))])
		}
		apart = append(apart, parts)
	}
	slices.SortFunc(apart, slices.Compare)
	var list []api.File
	for _, parts := range apart {
		f := api.File{Path: strings.Join(parts, "/"), Data: kinds[r.Intn(len(kinds))]}
		if r.Intn(3) == 0 {
			f.Data = make([]byte, r.Intn(3000))
			r.Read(f.Data)
		}
		if build.Check(append(list[:len(list):len(list)], f)) == api.OK {
			list = append(list, f)
		}
	}
	return list
}

// same tells whether two lists have the same files.
func same(a, b []api.File) bool {
	return slices.EqualFunc(a, b, func(f, g api.File) bool { return f.Path == g.Path && bytes.Equal(f.Data, g.Data) })
}

// walked holds files, built and walked, against what they were.
func walked(t *testing.T, list []api.File, cut func([]byte) [][]byte) {
	t.Helper()
	s := store(t)
	added := map[api.ID]bool{}
	root, e := build.Build(list, cut, func(b []byte) (api.ID, api.Errno) {
		added[sha.Of(b)] = true
		return s.keep(b), api.OK
	})
	if e != api.OK {
		t.Fatalf("built: %d", e)
	}
	got, e := walk.Files(root, s.load)
	if e != api.OK || !same(got, list) {
		t.Fatalf("%d, %d files, not %d", e, len(got), len(list))
	}
	// The sums are those that were added, all of them, each once.
	sums, e := walk.Sums(root, s.load)
	for _, id := range sums {
		delete(s.kept, id)
	}
	if e != api.OK || len(sums) != len(added) || len(s.kept) != 0 || sums[0] != root {
		t.Fatalf("%d, %d sums, not %d", e, len(sums), len(added))
	}
}

func TestWhatIsBuiltIsWalked(t *testing.T) {
	r := rand.New(rand.NewSource(18))
	for i := range 150 {
		cutter, e := chunk.New(chunk.Params{Min: 1 + r.Intn(50), Max: 50 + r.Intn(200), Bits: r.Intn(8), Width: 1 + r.Intn(64), Seed: uint64(i)})
		if e != api.OK {
			t.Fatal(e)
		}
		walked(t, chosen(r), cutter.Split)
	}
}

func TestTheEdgesOfWhatIsBuiltAreWalked(t *testing.T) {
	whole := func(b []byte) [][]byte { return [][]byte{b} }
	var flat, apart []api.File
	for i := range 512 {
		name := "n" + strconv.Itoa(1000+i)
		flat = append(flat, api.File{Path: name, Data: []byte(name)})
		// Each in a directory of its own.
		apart = append(apart, api.File{Path: name + "/d/e/f/g/h/i/" + name})
	}
	for _, list := range [][]api.File{
		nil,
		{{Path: "a"}},
		{{Path: strings.Repeat("a/", 59) + "b", Data: []byte("x")}},
		{{Path: letters(40) + "/" + letters(40) + "/" + letters(38), Data: []byte("x")}},
		{{Path: "a", Data: bytes.Repeat([]byte("data"), 1<<18)}},
		flat,
		apart,
	} {
		walked(t, list, whole)
	}
	// A byte a chunk: as many as a file's node has.
	walked(t, []api.File{{Path: "a/b", Data: make([]byte, 4096)}}, func(b []byte) [][]byte { return slices.Collect(slices.Chunk(b, 1)) })
}

// step is what a model has yet to do: come to a node, or to the end of a file of some bytes.
type step struct {
	path string
	node tree.Node
}

// modelFiles is what Files should answer, and all loads.
func modelFiles(s *blobs, root api.ID) ([]api.File, api.Errno, []api.ID) {
	var list []api.File
	var loaded []api.ID
	trees := 1
	todo := []step{{"", sub("", root)}}
	for len(todo) > 0 {
		at := todo[0]
		todo = todo[1:]
		if at.node.Dir {
			loaded = append(loaded, at.node.Sub)
			b, e := s.load(at.node.Sub)
			if e != api.OK {
				return nil, e, loaded
			}
			nodes, e := tree.Decode(b)
			if e != api.OK {
				return nil, e, loaded
			}
			var inside []step
			for _, n := range nodes {
				inside = append(inside, step{strings.TrimPrefix(at.path+"/"+n.Name, "/"), n})
			}
			todo = append(inside, todo...)
		} else {
			f := api.File{Path: at.path}
			for _, id := range at.node.Parts {
				loaded = append(loaded, id)
				b, e := s.load(id)
				if e != api.OK {
					return nil, e, loaded
				}
				f.Data = append(f.Data, b...)
			}
			if int64(len(f.Data)) != at.node.Size {
				return nil, api.ErrForm, loaded
			}
			list = append(list, f)
		}
		if len(todo) == 0 {
			break
		}
		switch next := todo[0]; {
		case len(next.path) > 120:
			return nil, api.ErrPath, loaded
		case next.node.Dir && trees == 4096, !next.node.Dir && len(list) == 512:
			return nil, api.ErrMany, loaded
		case next.node.Dir:
			trees++
		}
	}
	return list, api.OK, loaded
}

// modelSums is what Sums should answer, and all loads.
func modelSums(s *blobs, root api.ID) ([]api.ID, api.Errno, []api.ID) {
	var list, loaded []api.ID
	todo := []tree.Node{sub("", root)}
	for len(todo) > 0 {
		n := todo[0]
		todo = todo[1:]
		for id := range tree.Blobs([]tree.Node{n}) {
			if !slices.Contains(list, id) {
				list = append(list, id)
			}
		}
		if !n.Dir || slices.Contains(loaded, n.Sub) {
			continue
		}
		loaded = append(loaded, n.Sub)
		b, e := s.load(n.Sub)
		if e != api.OK {
			return nil, e, loaded
		}
		nodes, e := tree.Decode(b)
		if e != api.OK {
			return nil, e, loaded
		}
		todo = append(nodes, todo...)
	}
	return list, api.OK, loaded
}

// tangle is some blobs that have one another, some of them wrong: chunks, trees, what is neither, what isn't there. The last one has the most behind it.
func tangle(r *rand.Rand, t *testing.T) (*blobs, api.ID) {
	s := store(t)
	all := []api.ID{s.keep(nil), s.keep([]byte("a")), s.keep([]byte("bc")), s.dir()}
	trees := []api.ID{s.dir(), s.dir()}
	// With long names paths may be too long, with short ones there may be too many files.
	longest := 1 + r.Intn(1+r.Intn(40))
	for range 2 + r.Intn(25) {
		var list []tree.Node
		for i := range r.Intn(7) {
			name := strings.Repeat(string(rune('a'+i)), 1+r.Intn(longest))
			if r.Intn(2) == 0 {
				list = append(list, sub(name, trees[max(len(trees)-1-r.Intn(3), 0)]))
				continue
			}
			n := tree.Node{Name: name}
			for range r.Intn(4) {
				part := all[r.Intn(len(all))]
				n.Size += int64(len(s.kept[part]))
				n.Parts = append(n.Parts, part)
			}
			if r.Intn(300) == 0 {
				n.Size = int64(r.Intn(9))
			}
			list = append(list, n)
		}
		made := s.dir(list...)
		trees, all = append(trees, made), append(all, made)
	}
	for i, id := range all[4:] {
		switch r.Intn(200) {
		case 0:
			delete(s.kept, id)
		case 1:
			s.errors[id] = api.Errno(100 + i)
		case 2:
			s.kept[id] = []byte("some text")
		}
	}
	return s, trees[len(trees)-1]
}

func TestEveryTangle(t *testing.T) {
	r := rand.New(rand.NewSource(81))
	told := map[api.Errno]int{}
	again := 0
	for range 3000 {
		s, root := tangle(r, t)
		want, e, loaded := modelFiles(s, root)
		s.loaded = nil
		got, f := walk.Files(root, s.load)
		if f != e || !same(got, want) {
			t.Fatalf("files: %d, %d of them, not %d, %d", f, len(got), e, len(want))
		}
		s.came(loaded...)
		told[min(f, 100)]++
		wanted, e, loaded := modelSums(s, root)
		s.loaded = nil
		sums, f := walk.Sums(root, s.load)
		if f != e || !slices.Equal(sums, wanted) {
			t.Fatalf("sums: %d, %d of them, not %d, %d", f, len(sums), e, len(wanted))
		}
		s.came(loaded...)
		if t.Failed() {
			t.FailNow()
		}
		if len(got) > len(sums) {
			again++
		}
	}
	for _, e := range []api.Errno{api.OK, api.ErrNone, api.ErrSum, api.ErrForm, api.ErrPath, api.ErrMany, 100} {
		if told[e] < 10 {
			t.Errorf("%d was told %d times", e, told[e])
		}
	}
	if again < 10 {
		t.Errorf("%d trees had what comes again", again)
	}
}
