package build_test

import (
	"bytes"
	"math/rand"
	"slices"
	"strings"
	"testing"

	"coldstore/api"
	"coldstore/build"
	"coldstore/chunk"
	"coldstore/guard"
	"coldstore/sha"
	"coldstore/tree"
)

// keeper is what adds: all that was added, in order.
type keeper struct {
	blobs [][]byte
	// fails is which blob has an error, counted from 1 on (0: none), and e is this error.
	fails int
	e     api.Errno
}

// add tells a sum with an error, too.
func (k *keeper) add(b []byte) (api.ID, api.Errno) {
	k.blobs = append(k.blobs, b)
	if len(k.blobs) == k.fails {
		return sha.Of(b), k.e
	}
	return sha.Of(b), api.OK
}

// pairs cuts bytes into chunks of two.
func pairs(b []byte) [][]byte {
	return slices.Collect(slices.Chunk(b, 2))
}

// encoded is nodes' bytes.
func encoded(t *testing.T, list ...tree.Node) []byte {
	t.Helper()
	b, e := tree.Encode(list)
	if e != api.OK {
		t.Fatal(e)
	}
	return b
}

// fileNode is a file's node, if it is cut into pairs.
func fileNode(name, data string) tree.Node {
	n := tree.Node{Name: name, Size: int64(len(data))}
	for _, c := range pairs([]byte(data)) {
		n.Parts = append(n.Parts, sha.Of(c))
	}
	return n
}

// dirNode is the node of a directory of these bytes.
func dirNode(name string, b []byte) tree.Node {
	return tree.Node{Name: name, Dir: true, Sub: sha.Of(b)}
}

// built is what is added for files that are cut into pairs, and their tree's sum.
func built(t *testing.T, list []api.File) ([][]byte, api.ID) {
	t.Helper()
	var k keeper
	root, e := build.Build(list, pairs, k.add)
	if e != api.OK {
		t.Fatalf("%d", e)
	}
	return k.blobs, root
}

// texts is blobs as texts.
func texts(blobs [][]byte) []string {
	var list []string
	for _, b := range blobs {
		list = append(list, string(b))
	}
	return list
}

func TestBuildOfNoFiles(t *testing.T) {
	for _, list := range [][]api.File{nil, {}} {
		blobs, root := built(t, list)
		if len(blobs) != 1 || len(blobs[0]) != 9 || !bytes.Equal(blobs[0], encoded(t)) || root != sha.Of(blobs[0]) {
			t.Errorf("%x: %x", root, blobs)
		}
	}
}

func TestBuildAddsInOrder(t *testing.T) {
	inE := encoded(t, fileNode("f", "fghij"), fileNode("g", ""))
	inD := encoded(t, fileNode("b", "de"), dirNode("e", inE), fileNode("e-", "k"))
	inY := encoded(t, fileNode("z", "lm"))
	inX := encoded(t, dirNode("y", inY))
	all := encoded(t, fileNode("a", "abc"), dirNode("d", inD), fileNode("m", "ab"), dirNode("x", inX))
	want := texts([][]byte{[]byte("ab"), []byte("c"),
		[]byte("de"), []byte("fg"), []byte("hi"), []byte("j"), inE, []byte("k"), inD,
		[]byte("ab"),
		[]byte("lm"), inY, inX, all})
	blobs, root := built(t, files("a", "abc", "d/b", "de", "d/e/f", "fghij", "d/e/g", "", "d/e-", "k", "m", "ab", "x/y/z", "lm"))
	if got := texts(blobs); !slices.Equal(got, want) {
		t.Errorf("%q, not %q", got, want)
	}
	if root != sha.Of(all) {
		t.Errorf("%x", root)
	}
}

// What cuts is asked for a file when it comes to it, not ahead.
func TestBuildCutsInOrder(t *testing.T) {
	var steps []string
	cut := func(b []byte) [][]byte {
		steps = append(steps, "cut "+string(b))
		return pairs(b)
	}
	add := func(b []byte) (api.ID, api.Errno) {
		if _, e := tree.Decode(b); e == api.OK {
			b = []byte("tree")
		}
		steps = append(steps, string(b))
		return sha.Of(b), api.OK
	}
	if _, e := build.Build(files("a", "abc", "b/c", "", "d", "de"), cut, add); e != api.OK {
		t.Fatal(e)
	}
	if got := strings.Join(steps, ", "); got != "cut abc, ab, c, cut , tree, cut de, de, tree" {
		t.Error(got)
	}
}

// What is added tells the sums, whatever they are; how many bytes a file has is its own, whatever is made of these.
func TestBuildTakesWhatItIsTold(t *testing.T) {
	n := byte(0)
	var last []byte
	add := func(b []byte) (api.ID, api.Errno) {
		n++
		last = b
		return api.ID{n}, api.OK
	}
	cut := func(b []byte) [][]byte {
		return [][]byte{[]byte("one"), nil, b, []byte("two")}
	}
	root, e := build.Build(files("a", "abcdefg", "b/c", ""), cut, add)
	if e != api.OK || root != (api.ID{10}) {
		t.Errorf("%x %d", root, e)
	}
	want := encoded(t, tree.Node{Name: "a", Size: 7, Parts: []api.ID{{1}, {2}, {3}, {4}}}, tree.Node{Name: "b", Dir: true, Sub: api.ID{9}})
	if !bytes.Equal(last, want) {
		t.Errorf("%x, not %x", last, want)
	}
}

func TestBuildOfWrongFilesAddsNothing(t *testing.T) {
	called := false
	cut := func(b []byte) [][]byte {
		called = true
		return nil
	}
	add := func(b []byte) (api.ID, api.Errno) {
		called = true
		return api.ID{1}, api.OK
	}
	for _, c := range wrongs() {
		if root, e := build.Build(c.files, cut, add); e != c.e || root != (api.ID{}) || called {
			t.Fatalf("%s: %x, %d, not %d; called: %t", c.name, root, e, c.e, called)
		}
	}
}

func TestBuildOfRightFiles(t *testing.T) {
	whole := func(b []byte) [][]byte { return [][]byte{b} }
	for _, c := range right() {
		var k keeper
		before := copied(c.files)
		root, e := build.Build(c.files, whole, k.add)
		if e != api.OK || len(k.blobs) <= len(c.files) || root != sha.Of(k.blobs[len(k.blobs)-1]) || !same(before, c.files) {
			t.Errorf("%s: %d, %d blobs", c.name, e, len(k.blobs))
		}
	}
}

func TestTheFirstErrorEndsABuild(t *testing.T) {
	list := files("a", "abc", "d/b", "de", "d/e/f", "fghij", "d/e/g", "", "m", "ab")
	all, _ := built(t, list)
	for n := 1; n <= len(all); n++ {
		for _, e := range []api.Errno{api.ErrFault, api.ErrQuota, api.Errno(-7)} {
			k := keeper{fails: n, e: e}
			root, got := build.Build(list, pairs, k.add)
			if got != e || root != (api.ID{}) {
				t.Errorf("the blob %d of %d: %x %d, not %d", n, len(all), root, got, e)
			}
			if !slices.Equal(texts(k.blobs), texts(all[:n])) {
				t.Errorf("the blob %d of %d: %d were added", n, len(all), len(k.blobs))
			}
		}
	}
}

// A file's node has no more sums than layer 10 takes: its directory's tree is what has the error then.
func TestBuildOfTooManyChunks(t *testing.T) {
	singly := func(b []byte) [][]byte { return slices.Collect(slices.Chunk(b, 1)) }
	for _, c := range []struct {
		size int
		path string
		e    api.Errno
		// n is how many blobs are added.
		n int
	}{
		{4096, "a", api.OK, 4096 + 2},
		{4096, "a/b", api.OK, 4096 + 3},
		// The file behind it is in the same directory.
		{4097, "a", api.ErrMany, 4097 + 1},
		{4097, "a/b", api.ErrMany, 4097},
		{1 << 16, "a/b", api.ErrMany, 1 << 16},
	} {
		var k keeper
		list := []api.File{{Path: c.path, Data: make([]byte, c.size)}, {Path: "z", Data: []byte("z")}}
		root, e := build.Build(list, singly, k.add)
		if e != c.e || (root == api.ID{}) != (e != api.OK) || len(k.blobs) != c.n {
			t.Errorf("%d chunks of %s: %d, %d blobs", c.size, c.path, e, len(k.blobs))
		}
	}
}

func TestBuildOfDeepDirectories(t *testing.T) {
	deep := strings.Repeat("a/", 59) + "a"
	blobs, root := built(t, files(deep, "x", "b", "x"))
	// A chunk, 59 directories, a chunk, the tree of all.
	if len(blobs) != 62 || string(blobs[0]) != "x" || string(blobs[60]) != "x" {
		t.Fatalf("%d blobs", len(blobs))
	}
	want := encoded(t, fileNode("a", "x"))
	for i := 1; i < 60; i++ {
		if !bytes.Equal(blobs[i], want) {
			t.Fatalf("blob %d is another one", i)
		}
		want = encoded(t, dirNode("a", blobs[i]))
	}
	if want = encoded(t, dirNode("a", blobs[59]), fileNode("b", "x")); !bytes.Equal(blobs[61], want) || root != sha.Of(want) {
		t.Error("the tree of all is another one")
	}
}

func TestBuildWithoutFunctions(t *testing.T) {
	list := files("a", "abc", "d/b", "de")
	var k keeper
	if root, e := build.Build(list, nil, k.add); e != api.OK || root != sha.Of(k.blobs[1]) || len(k.blobs) != 2 {
		t.Errorf("nothing cuts: %d, %d blobs", e, len(k.blobs))
	}
	if root, e := build.Build(list, pairs, nil); e != api.OK || root != (api.ID{}) {
		t.Errorf("nothing adds: %x %d", root, e)
	}
	if root, e := build.Build(list, nil, nil); e != api.OK || root != (api.ID{}) {
		t.Errorf("neither: %x %d", root, e)
	}
	if root, e := build.Build(paths("A"), nil, nil); e != api.ErrPath || root != (api.ID{}) {
		t.Errorf("of wrong files: %x %d", root, e)
	}
}

func TestWhatIsThrownEndsABuild(t *testing.T) {
	list := files("a", "abc", "b/c", "de")
	n := 0
	if root, e := build.Build(list, pairs, func(b []byte) (api.ID, api.Errno) {
		n++
		if n == 3 {
			guard.Must(api.ErrJobs)
		}
		return sha.Of(b), api.OK
	}); e != api.ErrJobs || root != (api.ID{}) || n != 3 {
		t.Errorf("by what adds: %x %d, %d blobs", root, e, n)
	}
	var k keeper
	if root, e := build.Build(list, func([]byte) [][]byte { panic(api.ErrThaw) }, k.add); e != api.ErrThaw || root != (api.ID{}) || len(k.blobs) > 0 {
		t.Errorf("by what cuts: %x %d, %d blobs", root, e, len(k.blobs))
	}
}

func TestABlownFuseGoesThroughABuild(t *testing.T) {
	for n := range 9 {
		fuse := guard.NewFuse(n)
		done := 0
		blew := fuse.Catch(func() {
			build.Build(files("a", "abc", "b/c", "de"), pairs, func(b []byte) (api.ID, api.Errno) {
				fuse.Step()
				done++
				return sha.Of(b), api.OK
			})
		})
		if blew != (n < 5) || done != min(n, 5) {
			t.Errorf("a fuse for %d: %d were added", n, done)
		}
	}
}

// What cuts may do with its bytes as it likes: the files are the caller's.
func TestBuildTurnsNoFile(t *testing.T) {
	spare := []byte("abcdef")
	list := []api.File{{Path: "a", Data: spare[:3]}, {Path: "b", Data: spare[3:4]}, {Path: "c", Data: []byte("x")}}
	row := append([]api.File{}, list...)
	cut := func(b []byte) [][]byte {
		for i := range b {
			b[i] = '!'
		}
		return [][]byte{append(b, '?')}
	}
	var k keeper
	if _, e := build.Build(row[:2], cut, k.add); e != api.OK {
		t.Fatal(e)
	}
	if string(spare) != "abcdef" || !same(row, list) {
		t.Errorf("%q %q", spare, row)
	}
}

// Files may be written over behind the call, though what cuts hands on pieces of what it is handed, and what adds keeps them.
func TestBuildKeepsNoFile(t *testing.T) {
	list := files("a", "abc", "b/c", "de")
	blobs, _ := built(t, list)
	before := texts(blobs)
	for _, f := range list {
		copy(f.Data, "???")
	}
	list[0].Path = "z"
	if got := texts(blobs); !slices.Equal(got, before) {
		t.Errorf("%q, not %q", got, before)
	}
	// Nor do two of what was added share memory.
	for i, b := range blobs {
		for j := range b {
			b[j]++
		}
		before[i] = string(b)
		if got := texts(blobs); !slices.Equal(got, before) {
			t.Fatalf("blob %d shares its memory", i)
		}
	}
}

// What is the same in two trees is added as the same, wherever it is, and whatever is beside it.
func TestTheSameIsAddedAsTheSame(t *testing.T) {
	inside := []string{"b", "abcde", "d/e", "fg", "d/f/g", "", "d/f/h", "ab", "m", "x"}
	in := func(dir string) []string {
		moved := slices.Clone(inside)
		for i := 0; i < len(moved); i += 2 {
			moved[i] = dir + moved[i]
		}
		return moved
	}
	alone, _ := built(t, files(inside...))
	for i, c := range []struct {
		files []api.File
		times int
	}{
		{files(in("p/")...), 1},
		{files(in("p/q/r/")...), 1},
		{files(slices.Concat([]string{"a", "other"}, in("p/"), []string{"z", "others"})...), 1},
		{files(slices.Concat([]string{"p/a", "other", "p/n-", "n"}, in("p/o/"), []string{"p/z", "others"})...), 1},
		{files(slices.Concat(in("p/"), in("q/"))...), 2},
		{files(slices.Concat([]string{"a", "abcde"}, in("p/p/"), in("p/q/"), in("q/q/"))...), 3},
	} {
		blobs, _ := built(t, c.files)
		times := 0
		for at := range len(blobs) - len(alone) {
			if slices.Equal(texts(blobs[at:at+len(alone)]), texts(alone)) {
				times++
			}
		}
		if times != c.times {
			t.Errorf("case %d: added %d times", i, times)
		}
	}
}

// parted is a file whose path was taken apart.
type parted struct {
	parts []string
	data  []byte
}

// model adds what should be added for files, of which the first parts are those of one directory.
func model(t *testing.T, k *keeper, cut func([]byte) [][]byte, list []parted) api.ID {
	var nodes []tree.Node
	for len(list) > 0 {
		name := list[0].parts[0]
		if len(list[0].parts) == 1 {
			n := tree.Node{Name: name, Size: int64(len(list[0].data))}
			for _, c := range cut(list[0].data) {
				id, _ := k.add(c)
				n.Parts = append(n.Parts, id)
			}
			nodes, list = append(nodes, n), list[1:]
			continue
		}
		var inside []parted
		for len(list) > 0 && list[0].parts[0] == name {
			inside, list = append(inside, parted{list[0].parts[1:], list[0].data}), list[1:]
		}
		nodes = append(nodes, tree.Node{Name: name, Dir: true, Sub: model(t, k, cut, inside)})
	}
	id, _ := k.add(encoded(t, nodes...))
	return id
}

// chosen is right files: some of few paths, with bytes.
func chosen(r *rand.Rand) []api.File {
	names := []string{"a", "a-", "a.b", "aa", "b"}
	var list []parted
	for range r.Intn(40) {
		var parts []string
		for range 1 + r.Intn(4) {
			parts = append(parts, names[r.Intn(len(names))])
		}
		data := make([]byte, r.Intn(60))
		r.Read(data)
		list = append(list, parted{parts, data})
	}
	slices.SortFunc(list, func(a, b parted) int { return slices.Compare(a.parts, b.parts) })
	var made []api.File
	for _, f := range list {
		p := strings.Join(f.parts, "/")
		last := ""
		if len(made) > 0 {
			last = made[len(made)-1].Path
		}
		if last == "" || p != last && !strings.HasPrefix(p, last+"/") {
			made = append(made, api.File{Path: p, Data: f.data})
		}
	}
	return made
}

func TestBuildOfAllFiles(t *testing.T) {
	r := rand.New(rand.NewSource(17))
	cutter, _ := chunk.New(chunk.Params{Min: 2, Max: 16, Bits: 2, Width: 3, Seed: 5})
	for range 600 {
		list := chosen(r)
		var apart []parted
		for _, f := range list {
			apart = append(apart, parted{strings.Split(f.Path, "/"), f.Data})
		}
		var want, got, again keeper
		wanted := model(t, &want, cutter.Split, apart)
		root, e := build.Build(list, cutter.Split, got.add)
		if e != api.OK || root != wanted || !slices.Equal(texts(got.blobs), texts(want.blobs)) {
			t.Fatalf("%d, %d blobs, not %d, of %q", e, len(got.blobs), len(want.blobs), list)
		}
		// The files alone make the tree: not what was built ahead, nor where its bytes are.
		if root, e = build.Build(copied(list), cutter.Split, again.add); e != api.OK || root != wanted || !slices.Equal(texts(again.blobs), texts(want.blobs)) {
			t.Fatal("built again it is another tree")
		}
	}
}
