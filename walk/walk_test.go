package walk_test

import (
	"bytes"
	"encoding/binary"
	"math"
	"slices"
	"strconv"
	"strings"
	"testing"

	"coldstore/api"
	"coldstore/guard"
	"coldstore/seal"
	"coldstore/sha"
	"coldstore/tree"
	"coldstore/walk"
)

// blobs is what loads: blobs by their sums, errors by sums, and all sums that were loaded, in order.
type blobs struct {
	t      *testing.T
	kept   map[api.ID][]byte
	errors map[api.ID]api.Errno
	loaded []api.ID
}

// store is no blobs yet.
func store(t *testing.T) *blobs {
	return &blobs{t: t, kept: map[api.ID][]byte{}, errors: map[api.ID]api.Errno{}}
}

// load tells bytes with an error, too.
func (s *blobs) load(id api.ID) ([]byte, api.Errno) {
	s.loaded = append(s.loaded, id)
	b, found := s.kept[id]
	if e := s.errors[id]; e != api.OK {
		return b, e
	}
	if !found {
		return []byte("none"), api.ErrNone
	}
	return b, api.OK
}

// keep keeps a blob: its sum.
func (s *blobs) keep(b []byte) api.ID {
	s.kept[sha.Of(b)] = b
	return sha.Of(b)
}

// dir keeps a tree: its sum.
func (s *blobs) dir(list ...tree.Node) api.ID {
	s.t.Helper()
	b, e := tree.Encode(list)
	if e != api.OK {
		s.t.Fatal(e)
	}
	return s.keep(b)
}

// file is the node of a file of some chunks, which are kept.
func (s *blobs) file(name string, chunks ...string) tree.Node {
	n := tree.Node{Name: name}
	for _, c := range chunks {
		n.Size += int64(len(c))
		n.Parts = append(n.Parts, s.keep([]byte(c)))
	}
	return n
}

// sub is a directory's node.
func sub(name string, id api.ID) tree.Node {
	return tree.Node{Name: name, Dir: true, Sub: id}
}

// id is a sum, one of many.
func id(n int) api.ID {
	return api.ID{byte(n), byte(n >> 8), byte(n >> 16), 31: 7}
}

// ids is so many sums, from one on.
func ids(n, from int) []api.ID {
	list := make([]api.ID, n)
	for i := range list {
		list[i] = id(from + i)
	}
	return list
}

// letters is so many bytes of one letter.
func letters(n int) string {
	return strings.Repeat("x", n)
}

// files holds a tree's files, or the error, against what they must be: a path, and its bytes, by turns.
func (s *blobs) files(root api.ID, e api.Errno, pairs ...string) {
	s.t.Helper()
	s.loaded = nil
	list, got := walk.Files(root, s.load)
	var flat []string
	for _, f := range list {
		flat = append(flat, f.Path, string(f.Data))
	}
	if got != e || !slices.Equal(flat, pairs) {
		s.t.Errorf("files: %.200q %d, not %.200q %d", flat, got, pairs, e)
	}
}

// sums holds a tree's sums, or the error, against what they must be.
func (s *blobs) sums(root api.ID, e api.Errno, want ...api.ID) {
	s.t.Helper()
	s.loaded = nil
	if list, got := walk.Sums(root, s.load); got != e || !slices.Equal(list, want) {
		s.t.Errorf("sums: %d of them, %d, not %d, %d", len(list), got, len(want), e)
	}
}

// came holds the sums that were loaded against what they must be.
func (s *blobs) came(want ...api.ID) {
	s.t.Helper()
	if !slices.Equal(s.loaded, want) {
		s.t.Errorf("%d were loaded: %x, not %x", len(s.loaded), s.loaded[:min(len(s.loaded), 9)], want[:min(len(want), 9)])
	}
}

// sum is the sum of a text.
func sum(text string) api.ID {
	return sha.Of([]byte(text))
}

func TestATreeWithoutNodes(t *testing.T) {
	s := store(t)
	root := s.dir()
	s.files(root, api.OK)
	s.came(root)
	s.sums(root, api.OK, root)
	s.came(root)
}

func TestFilesInOrder(t *testing.T) {
	s := store(t)
	inE := s.dir(s.file("f", "fg", "h"), s.file("g"))
	inD := s.dir(s.file("b", "de"), sub("e", inE), s.file("e-", "k"))
	empty := s.dir()
	root := s.dir(s.file("a", "ab", "c"), sub("d", inD), s.file("d-", ""), sub("m", empty), s.file("z", "c", "", "c"))
	s.files(root, api.OK, "a", "abc", "d/b", "de", "d/e/f", "fgh", "d/e/g", "", "d/e-", "k", "d-", "", "z", "cc")
	s.came(root, sum("ab"), sum("c"), inD, sum("de"), inE, sum("fg"), sum("h"), sum("k"), sum(""), empty, sum("c"), sum(""), sum("c"))
	// A tree in it is the tree of all that it has.
	s.files(inD, api.OK, "b", "de", "e/f", "fgh", "e/g", "", "e-", "k")
}

func TestSumsInOrder(t *testing.T) {
	s := store(t)
	inE := s.dir(s.file("f", "fg", "h"), s.file("g"))
	inD := s.dir(s.file("b", "de"), sub("e", inE), s.file("e-", "k", "ab"))
	empty := s.dir()
	root := s.dir(s.file("a", "ab", "c"), sub("d", inD), s.file("d-", ""), sub("m", empty), s.file("z", "c", "", "new", "c"))
	s.sums(root, api.OK, root, sum("ab"), sum("c"), inD, sum("de"), inE, sum("fg"), sum("h"), sum("k"), sum(""), empty, sum("new"))
	s.came(root, inD, inE, empty)
}

// What comes twice is loaded twice for files, but once for sums.
func TestATreeThatComesAgain(t *testing.T) {
	s := store(t)
	in := s.dir(s.file("f", "xy"))
	mid := s.dir(sub("a", in), sub("b", in))
	root := s.dir(sub("k", mid), sub("l", in), sub("m", mid))
	s.files(root, api.OK, "k/a/f", "xy", "k/b/f", "xy", "l/f", "xy", "m/a/f", "xy", "m/b/f", "xy")
	s.came(root, mid, in, sum("xy"), in, sum("xy"), in, sum("xy"), mid, in, sum("xy"), in, sum("xy"))
	s.sums(root, api.OK, root, mid, in, sum("xy"))
	s.came(root, mid, in)
}

// A tree's bytes may be a file's chunk, too: as a chunk alone it isn't loaded, as a tree it is.
func TestATreeThatComesAsAChunk(t *testing.T) {
	s := store(t)
	in := s.dir(s.file("f", "xy"))
	text := string(s.kept[in])
	as := s.file("c", text)
	alone := s.dir(as)
	s.sums(alone, api.OK, alone, in)
	s.came(alone)
	ahead := s.dir(as, sub("d", in))
	s.sums(ahead, api.OK, ahead, in, sum("xy"))
	s.came(ahead, in)
	s.files(ahead, api.OK, "c", text, "d/f", "xy")
	as.Name = "e"
	behind := s.dir(sub("d", in), as)
	s.sums(behind, api.OK, behind, in, sum("xy"))
	s.came(behind, in)
	between := s.dir(sub("d", in), as, sub("f", in))
	s.sums(between, api.OK, between, in, sum("xy"))
	s.came(between, in)
}

func TestTheFirstErrorOfALoadEndsIt(t *testing.T) {
	s := store(t)
	in := s.dir(s.file("f", "fg", "h"))
	root := s.dir(s.file("a", "ab", "c"), sub("d", in), s.file("z", "z"))
	loads := []api.ID{root, sum("ab"), sum("c"), in, sum("fg"), sum("h"), sum("z")}
	for i, at := range loads {
		for _, e := range []api.Errno{api.ErrFault, api.ErrThaw, api.Errno(-7)} {
			s.errors = map[api.ID]api.Errno{at: e}
			s.files(root, e)
			s.came(loads[:i+1]...)
		}
		kept := s.kept[at]
		s.errors = nil
		delete(s.kept, at)
		s.files(root, api.ErrNone)
		s.came(loads[:i+1]...)
		s.kept[at] = kept
	}
	// Chunks aren't loaded for sums.
	s.errors = map[api.ID]api.Errno{sum("ab"): api.ErrFault, sum("h"): api.ErrFault}
	s.sums(root, api.OK, root, sum("ab"), sum("c"), in, sum("fg"), sum("h"), sum("z"))
	s.errors = map[api.ID]api.Errno{in: api.ErrThaw}
	s.sums(root, api.ErrThaw)
	s.came(root, in)
	s.errors = map[api.ID]api.Errno{root: api.Errno(-7)}
	s.sums(root, api.Errno(-7))
	s.came(root)
}

// noTrees is bytes that are no tree's, with layer 10's error.
func noTrees() map[string]api.Errno {
	whole, _ := tree.Encode([]tree.Node{{Name: "a"}})
	broken := slices.Clone(whole)
	broken[3] ^= 4
	falling := slices.Concat([]byte{2, 0, 0, 0}, bytes.Repeat(whole[5:len(whole)-4], 2))
	return map[string]api.Errno{
		"": api.ErrShort, "none": api.ErrShort, "some text": api.ErrSum,
		string(whole[:len(whole)-1]): api.ErrSum, string(broken): api.ErrSum,
		string(seal.Seal(83, []byte{0, 0, 0, 0})):    api.ErrForm,
		string(seal.Seal(84, nil)):                   api.ErrForm,
		string(seal.Seal(84, []byte{0, 0, 0, 0, 0})): api.ErrForm,
		string(seal.Seal(84, falling)):               api.ErrForm,
	}
}

func TestBytesThatAreNoTree(t *testing.T) {
	for text, e := range noTrees() {
		s := store(t)
		bad := s.keep([]byte(text))
		s.files(bad, e)
		s.sums(bad, e)
		root := s.dir(s.file("a", "ab"), sub("d", bad), s.file("e", "e"), sub("f", id(1)))
		s.files(root, e)
		s.came(root, sum("ab"), bad)
		s.sums(root, e)
		s.came(root, bad)
	}
}

// deep is a tree of which a node stands in a directory whose path has so many bytes: 81, or from 83 to 122.
func (s *blobs) deep(n int, node tree.Node) api.ID {
	inner := s.dir(node)
	if n > 81 {
		inner = s.dir(sub(letters(n-82), inner))
	}
	return s.dir(sub(letters(40), s.dir(sub(letters(40), inner))))
}

func TestPathsThatAreTooLong(t *testing.T) {
	s := store(t)
	empty := s.dir()
	for _, dir := range []int{81, 83, 100, 118} {
		// A name that makes a path of 120 bytes.
		most := 120 - dir - len("/")
		file := s.file(letters(most), "data")
		list, e := walk.Files(s.deep(dir, file), s.load)
		if e != api.OK || len(list) != 1 || len(list[0].Path) != 120 || string(list[0].Data) != "data" {
			t.Errorf("a file behind %d bytes: %d", dir, e)
		}
		s.files(s.deep(dir, sub(letters(most), empty)), api.OK)
		file.Name += "x"
		for _, n := range []tree.Node{file, sub(file.Name, empty)} {
			root := s.deep(dir, n)
			s.files(root, api.ErrPath)
			if slices.Contains(s.loaded, empty) || slices.Contains(s.loaded, sum("data")) {
				t.Errorf("behind %d bytes: what it has was loaded", dir)
			}
			// Of paths nothing is asked for sums.
			if list, e := walk.Sums(root, s.load); e != api.OK || len(list) < 4 {
				t.Errorf("sums behind %d bytes: %d", dir, e)
			}
		}
	}
}

func TestTooLongAPathIsAheadOfAllElse(t *testing.T) {
	s := store(t)
	for _, n := range []tree.Node{
		// These would be of another size, not there, or no tree.
		{Name: letters(20), Size: 9}, {Name: letters(20), Parts: ids(1, 5)}, sub(letters(20), id(6)), sub(letters(20), s.keep([]byte("no tree"))),
	} {
		root := s.deep(100, n)
		s.files(root, api.ErrPath)
		if len(s.loaded) != 4 {
			t.Errorf("%d were loaded", len(s.loaded))
		}
	}
	// What stands ahead of it is read first.
	last := s.dir(tree.Node{Name: "a", Parts: ids(1, 5)}, tree.Node{Name: letters(40)})
	s.files(s.dir(sub(letters(40), s.dir(sub(letters(40), last)))), api.ErrNone)
}

// some is so many files of a directory, without bytes.
func some(n int) []tree.Node {
	var list []tree.Node
	for i := range n {
		list = append(list, tree.Node{Name: "n" + strconv.Itoa(10000+i)})
	}
	return list
}

func TestManyFiles(t *testing.T) {
	s := store(t)
	list, e := walk.Files(s.dir(some(512)...), s.load)
	if e != api.OK || len(list) != 512 || list[0].Path != "n10000" || list[511].Path != "n10511" {
		t.Errorf("512 files: %d", e)
	}
	most, half := s.dir(some(512)...), s.dir(some(256)...)
	if list, e = walk.Files(s.dir(sub("a", half), sub("b", half)), s.load); e != api.OK || len(list) != 512 {
		t.Errorf("twice 256 files: %d", e)
	}
	s.files(s.dir(sub("a", half), sub("b", half), s.file("c")), api.ErrMany)
	s.files(s.dir(sub("a", half), sub("b", half), sub("c", half)), api.ErrMany)
	// Directories behind the last file may be.
	if list, e = walk.Files(s.dir(sub("a", most), sub("b", s.dir())), s.load); e != api.OK || len(list) != 512 {
		t.Errorf("512 files and a directory: %d", e)
	}
	for _, n := range []tree.Node{s.file("b"), s.file("b", "data"), {Name: "b", Parts: ids(1, 5)}, {Name: "b", Size: 9}} {
		root := s.dir(sub("a", most), n)
		s.files(root, api.ErrMany)
		s.came(root, most)
	}
	// Of files nothing is asked for sums.
	root := s.dir(sub("a", half), sub("b", half), sub("c", most), s.file("d", "data"))
	s.sums(root, api.OK, root, half, most, sum("data"))
	// Too long a path is ahead of one too many.
	s.errors[id(5)] = api.ErrFault
	last := s.dir(tree.Node{Name: letters(40), Parts: ids(1, 5)})
	s.files(s.dir(sub("a", most), sub(letters(40), s.dir(sub(letters(40), last)))), api.ErrPath)
	// A file of another size is ahead of one too many.
	s.files(s.dir(sub("a", s.dir(some(511)...)), tree.Node{Name: "b", Size: 1}, s.file("c")), api.ErrForm)
}

// forest is a tree of so many trees, it counted in, and without files; of these the last one comes last.
func (s *blobs) forest(n int, last api.ID) api.ID {
	empty := s.dir()
	var woods []tree.Node
	for left := n - 2; left > 0; {
		// A directory, and those in it.
		size := min(left, 500)
		var wood []tree.Node
		for i := range size - 1 {
			wood = append(wood, sub("d"+strconv.Itoa(1000+i), empty))
		}
		woods = append(woods, sub("w"+strconv.Itoa(100+len(woods)), s.dir(wood...)))
		left -= size
	}
	return s.dir(append(woods, sub("z", last))...)
}

func TestManyTrees(t *testing.T) {
	s := store(t)
	empty := s.dir()
	for _, n := range []int{3, 500, 4095, 4096} {
		s.files(s.forest(n, empty), api.OK)
		if len(s.loaded) != n {
			t.Errorf("%d trees: %d were loaded", n, len(s.loaded))
		}
		s.files(s.forest(n, id(1)), api.ErrNone)
	}
	for _, last := range []api.ID{empty, id(1), s.keep([]byte("no tree"))} {
		s.files(s.forest(4097, last), api.ErrMany)
		if len(s.loaded) != 4096 {
			t.Errorf("a tree too many: %d were loaded", len(s.loaded))
		}
	}
	s.files(s.forest(9000, empty), api.ErrMany)
	// For sums each counts once.
	if list, e := walk.Sums(s.forest(9000, empty), s.load); e != api.OK || len(list) > 10 {
		t.Errorf("sums: %d of them, %d", len(list), e)
	}
}

func TestSizes(t *testing.T) {
	s := store(t)
	ab, c, none := s.keep([]byte("ab")), s.keep([]byte("c")), s.keep(nil)
	for i, x := range []struct {
		size  int64
		parts []api.ID
		e     api.Errno
		data  string
	}{
		{0, nil, api.OK, ""}, {0, []api.ID{none}, api.OK, ""}, {2, []api.ID{ab}, api.OK, "ab"}, {5, []api.ID{ab, c, none, ab}, api.OK, "abcab"},
		{1, nil, api.ErrForm, ""}, {1, []api.ID{none}, api.ErrForm, ""}, {0, []api.ID{c}, api.ErrForm, ""},
		{1, []api.ID{ab}, api.ErrForm, ""}, {3, []api.ID{ab}, api.ErrForm, ""}, {2, []api.ID{ab, c}, api.ErrForm, ""}, {4, []api.ID{ab, c}, api.ErrForm, ""},
		{math.MaxInt64, []api.ID{ab, c}, api.ErrForm, ""}, {1<<32 + 3, []api.ID{ab, c}, api.ErrForm, ""},
		// All its chunks are loaded ahead of being counted.
		{1, []api.ID{ab, id(1)}, api.ErrNone, ""},
	} {
		n := tree.Node{Name: "f", Size: x.size, Parts: x.parts}
		root := s.dir(n, tree.Node{Name: "g"})
		if x.e == api.OK {
			s.files(root, x.e, "f", x.data, "g", "")
		} else {
			s.files(root, x.e)
			s.files(s.dir(sub("a", root), tree.Node{Name: "z", Parts: ids(1, 5)}), x.e)
		}
		if s.t.Failed() {
			t.Fatalf("case %d", i)
		}
		if _, e := walk.Sums(root, s.load); e != api.OK {
			t.Errorf("case %d: sums: %d", i, e)
		}
	}
	// A file may have more bytes than a store's thing.
	long := s.file("long", slices.Repeat([]string{letters(1 << 16)}, 40)...)
	if list, e := walk.Files(s.dir(long), s.load); e != api.OK || len(list) != 1 || len(list[0].Data) != 40<<16 {
		t.Errorf("a long file: %d", e)
	}
}

func TestManySums(t *testing.T) {
	s := store(t)
	root := s.dir(tree.Node{Name: "f", Parts: ids(4095, 0)})
	s.sums(root, api.OK, append([]api.ID{root}, ids(4095, 0)...)...)
	s.sums(s.dir(tree.Node{Name: "f", Parts: ids(4096, 0)}), api.ErrMany)
	s.sums(s.dir(tree.Node{Name: "f", Parts: ids(4095, 0)}, tree.Node{Name: "g", Parts: ids(1, 4095)}), api.ErrMany)
	// Those that come again don't count.
	again := s.dir(tree.Node{Name: "f", Parts: ids(4095, 0)}, tree.Node{Name: "g", Parts: ids(4095, 0)}, tree.Node{Name: "h", Parts: slices.Repeat(ids(1, 9), 4096)})
	s.sums(again, api.OK, append([]api.ID{again}, ids(4095, 0)...)...)
	// A tree counts, too, but not again.
	empty := s.dir()
	last := s.dir(tree.Node{Name: "f", Parts: ids(4094, 0)}, sub("g", empty), sub("h", empty))
	s.sums(last, api.OK, slices.Concat([]api.ID{last}, ids(4094, 0), []api.ID{empty})...)
	over := s.dir(tree.Node{Name: "f", Parts: ids(4095, 0)}, sub("g", empty))
	s.sums(over, api.ErrMany)
	s.came(over)
	// A root, three directories, and 4092 chunks; of one chunk more it is one too many.
	for n, e := range map[int]api.Errno{2: api.OK, 3: api.ErrMany} {
		part := func(n, from int) api.ID { return s.dir(tree.Node{Name: "f", Parts: ids(n, from)}) }
		root := s.dir(sub("a", part(4000, 0)), sub("b", part(4000, 90)), sub("c", part(n, 4090)))
		if list, got := walk.Sums(root, s.load); got != e || e == api.OK && len(list) != 4096 || e != api.OK && len(list) > 0 {
			t.Errorf("%d in the last one: %d of them, %d", n, len(list), got)
		}
	}
}

// chain is trees of which each but the last one has the next one.
func (s *blobs) chain(n int) []api.ID {
	list := []api.ID{s.dir()}
	for len(list) < n {
		list = append(list, s.dir(sub("d", list[len(list)-1])))
	}
	slices.Reverse(list)
	return list
}

func TestDeepTrees(t *testing.T) {
	s := store(t)
	for _, n := range []int{1, 2, 60, 61} {
		s.files(s.chain(n)[0], api.OK)
		if len(s.loaded) != n {
			t.Errorf("%d trees: %d were loaded", n, len(s.loaded))
		}
	}
	s.files(s.chain(62)[0], api.ErrPath)
	for _, n := range []int{1, 62, 4095, 4096} {
		list := s.chain(n)
		s.sums(list[0], api.OK, list...)
		s.came(list...)
	}
	s.sums(s.chain(4097)[0], api.ErrMany)
}

// What loads may tell of trees without end.
func TestTreesWithoutEnd(t *testing.T) {
	next := func(id api.ID, nodes ...tree.Node) ([]byte, api.Errno) {
		binary.LittleEndian.PutUint64(id[:], binary.LittleEndian.Uint64(id[:])+1)
		return tree.Encode(append([]tree.Node{sub("a", id)}, nodes...))
	}
	n := 0
	endless := func(id api.ID) ([]byte, api.Errno) {
		n++
		return next(id)
	}
	if list, e := walk.Files(api.ID{}, endless); e != api.ErrPath || len(list) != 0 || n != 61 {
		t.Errorf("files: %d, %d were loaded", e, n)
	}
	n = 0
	if list, e := walk.Sums(api.ID{}, endless); e != api.ErrMany || len(list) != 0 || n != 4096 {
		t.Errorf("sums: %d, %d were loaded", e, n)
	}
	// One that has itself, one time or more.
	n = 0
	itself := func(id api.ID) ([]byte, api.Errno) {
		n++
		return tree.Encode([]tree.Node{sub("a", id), {Name: "b", Parts: []api.ID{id, {1}}}, sub("c", id)})
	}
	if list, e := walk.Files(id(1), itself); e != api.ErrPath || len(list) != 0 {
		t.Errorf("files of one that has itself: %d", e)
	}
	n = 0
	if list, e := walk.Sums(id(1), itself); e != api.OK || !slices.Equal(list, []api.ID{id(1), {1}}) || n != 1 {
		t.Errorf("sums of one that has itself: %d, %d were loaded", e, n)
	}
}

func TestWithoutWhatLoads(t *testing.T) {
	if list, e := walk.Files(id(1), nil); e != api.ErrShort || len(list) != 0 {
		t.Errorf("files: %d", e)
	}
	if list, e := walk.Sums(id(1), nil); e != api.ErrShort || len(list) != 0 {
		t.Errorf("sums: %d", e)
	}
}

func TestWhatIsThrownEndsIt(t *testing.T) {
	s := store(t)
	root := s.dir(s.file("a", "ab"), sub("d", s.dir()))
	for n := range 3 {
		left := n
		load := func(id api.ID) ([]byte, api.Errno) {
			if left == 0 {
				guard.Must(api.ErrJobs)
			}
			left--
			return s.load(id)
		}
		if list, e := walk.Files(root, load); e != api.ErrJobs || len(list) != 0 {
			t.Errorf("files, with the load %d: %d", n, e)
		}
		left = n
		if list, e := walk.Sums(root, load); n < 2 && (e != api.ErrJobs || len(list) != 0) || n == 2 && e != api.OK {
			t.Errorf("sums, with the load %d: %d", n, e)
		}
	}
}

func TestABlownFuseGoesThrough(t *testing.T) {
	s := store(t)
	root := s.dir(s.file("a", "ab"), sub("d", s.dir()))
	for n := range 4 {
		for i, do := range []func(load func(api.ID) ([]byte, api.Errno)){
			func(load func(api.ID) ([]byte, api.Errno)) { walk.Sums(root, load) },
			func(load func(api.ID) ([]byte, api.Errno)) { walk.Files(root, load) },
		} {
			fuse := guard.NewFuse(n)
			blew := fuse.Catch(func() {
				do(func(id api.ID) ([]byte, api.Errno) {
					fuse.Step()
					return s.load(id)
				})
			})
			if blew != (n < 2+i) {
				t.Errorf("a fuse for %d: %t", n, blew)
			}
		}
	}
}

// What loads keeps its memory, and each file has its own.
func TestFilesShareNoMemory(t *testing.T) {
	s := store(t)
	spare := []byte("data and more")
	s.kept[sum("data")] = spare[:4]
	n := tree.Node{Name: "a", Size: 4, Parts: []api.ID{sum("data")}}
	twice := tree.Node{Name: "b", Size: 8, Parts: []api.ID{sum("data"), sum("data")}}
	root := s.dir(n, twice, sub("c", s.dir(n, twice)))
	before := string(s.kept[root])
	list, e := walk.Files(root, s.load)
	if e != api.OK || len(list) != 4 || string(spare) != "data and more" {
		t.Fatalf("%d %q", e, spare)
	}
	for i := range list {
		for j, f := range list {
			if want := "datadata"[:len(f.Data)]; j >= i && string(f.Data) != want {
				t.Fatalf("file %d shares its memory: %q", j, f.Data)
			}
		}
		data := list[i].Data[:cap(list[i].Data)]
		for j := range data {
			data[j] = '!'
		}
	}
	if string(spare) != "data and more" || string(s.kept[root]) != before {
		t.Errorf("%q", spare)
	}
	copy(spare, "????")
	copy(s.kept[root], "????")
	if string(list[0].Data) != "!!!!" || list[0].Path != "a" {
		t.Errorf("%q", list[0])
	}
}
