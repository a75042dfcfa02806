package build_test

import (
	"bytes"
	"slices"
	"strconv"
	"strings"
	"testing"

	"coldstore/api"
	"coldstore/build"
)

// files is files: a path, and its bytes, by turns.
func files(pairs ...string) []api.File {
	var list []api.File
	for i := 0; i < len(pairs); i += 2 {
		list = append(list, api.File{Path: pairs[i], Data: []byte(pairs[i+1])})
	}
	return list
}

// paths is files without bytes.
func paths(list ...string) []api.File {
	var made []api.File
	for _, p := range list {
		made = append(made, api.File{Path: p})
	}
	return made
}

// many is so many files of right ones.
func many(n int) []api.File {
	var list []api.File
	for i := range n {
		list = append(list, api.File{Path: "n" + strconv.Itoa(10000+i)})
	}
	return list
}

// letters is so many bytes of one letter.
func letters(n int) string {
	return strings.Repeat("x", n)
}

// long is a path of so many bytes, from 82 to 122 of them: three parts.
func long(n int) string {
	return letters(40) + "/" + letters(40) + "/" + letters(n-82)
}

// copied is files that share no memory with those that they are of.
func copied(list []api.File) []api.File {
	list = slices.Clone(list)
	for i := range list {
		list[i].Data = slices.Clone(list[i].Data)
	}
	return list
}

// same tells whether two lists have the same files.
func same(a, b []api.File) bool {
	return slices.EqualFunc(a, b, func(f, g api.File) bool { return f.Path == g.Path && bytes.Equal(f.Data, g.Data) })
}

// with is a list, with files behind it.
func with(list []api.File, more ...api.File) []api.File {
	return slices.Concat(list, more)
}

// wrong is files with what Check says of them.
type wrong struct {
	name  string
	files []api.File
	e     api.Errno
}

// right is files of which nothing is wrong.
func right() []wrong {
	most := make([]byte, api.MaxObject)
	return []wrong{
		{"none", nil, api.OK},
		{"an empty list", []api.File{}, api.OK},
		{"one", paths("a"), api.OK},
		{"bytes", files("a", "abc", "b", ""), api.OK},
		{"as many as may be", many(512), api.OK},
		{"as many bytes as may be", []api.File{{Path: "a", Data: most}, {Path: "b", Data: most}}, api.OK},
		{"as long a path as may be", paths(long(120)), api.OK},
		{"directories", paths("a/b/c", "a/b/d", "a/c", "b"), api.OK},
		// Part by part, not byte by byte.
		{"a directory ahead of its name's like", paths("a/b", "a-", "a.b", "ab"), api.OK},
		{"the beginning of a name", paths("a", "a-/b", "ab", "ab-/c"), api.OK},
		{"a name again, elsewhere", paths("a/a/b", "a/b", "b"), api.OK},
		{"a name's like in a directory", paths("d/a", "d/a-/b", "d/ab/c"), api.OK},
	}
}

// wrongs is files of which something is wrong.
func wrongs() []wrong {
	over := make([]byte, api.MaxObject+1)
	return []wrong{
		{"one too many", many(513), api.ErrMany},
		{"too many, of no path", make([]api.File, 513), api.ErrMany},
		{"too many, with a path that is none ahead", with(paths("/"), many(512)...), api.ErrMany},
		{"far too many", many(5000), api.ErrMany},

		{"no path", paths(""), api.ErrPath},
		{"a path that isn't clean", paths("a//b"), api.ErrPath},
		{"a root", paths("/a"), api.ErrPath},
		{"a separator behind", paths("a/"), api.ErrPath},
		{"the directory above", paths("a/../b"), api.ErrPath},
		{"a great letter", paths("a", "b", "C"), api.ErrPath},
		{"too long a path", paths(long(121)), api.ErrPath},
		{"too long a part", paths(letters(41)), api.ErrPath},
		{"no path, at the end of many", with(many(511), api.File{Path: "x y"}), api.ErrPath},

		{"a byte too many", []api.File{{Path: "a", Data: over}}, api.ErrLong},
		{"a byte too many, further on", []api.File{{Path: "a"}, {Path: "b/c", Data: over}}, api.ErrLong},

		{"a path twice", paths("a", "a"), api.ErrOrder},
		{"falling", paths("b", "a"), api.ErrOrder},
		{"falling, further on", paths("a", "c", "b"), api.ErrOrder},
		{"falling in a directory", paths("d/b", "d/a"), api.ErrOrder},
		{"a directory's like ahead of it", paths("a-", "a/b"), api.ErrOrder},
		{"a directory's like, with a point, ahead of it", paths("a.b", "a/b"), api.ErrOrder},
		{"the beginning behind", paths("aa", "a"), api.ErrOrder},
		{"a file behind what would be in it", paths("a/b", "a"), api.ErrOrder},
		{"a directory that comes again", paths("a/b", "b", "a/c"), api.ErrOrder},
		{"as numbers are ordered", paths("9", "10"), api.ErrOrder},

		{"in a file", paths("a", "a/b"), api.ErrForm},
		{"deep in a file", paths("a", "a/b/c"), api.ErrForm},
		{"in a file in a directory", paths("d/a", "d/a/b"), api.ErrForm},
		{"in a file, further on", paths("a", "b", "b/c", "d"), api.ErrForm},

		{"no path, and too long", []api.File{{Path: "A", Data: over}}, api.ErrPath},
		{"no path, and not behind", paths("b", "A"), api.ErrPath},
		{"no path, in a file", paths("a", "a/"), api.ErrPath},
		{"too long, and not behind", []api.File{{Path: "b"}, {Path: "a", Data: over}}, api.ErrLong},
		{"too long, in a file", []api.File{{Path: "a"}, {Path: "a/b", Data: over}}, api.ErrLong},
		{"too long, ahead of no path", []api.File{{Path: "a", Data: over}, {Path: "B"}}, api.ErrLong},
		{"not behind, ahead of no path", paths("b", "a", "C"), api.ErrOrder},
		{"not behind, ahead of too long", []api.File{{Path: "b"}, {Path: "a"}, {Path: "c", Data: over}}, api.ErrOrder},
		{"in a file, ahead of not behind", paths("a", "a/b", "a"), api.ErrForm},
		{"in a file, ahead of no path", paths("a", "a/b", "/"), api.ErrForm},
		{"not behind, ahead of in a file", paths("b", "a", "a/b"), api.ErrOrder},
	}
}

func TestCheck(t *testing.T) {
	for _, c := range append(right(), wrongs()...) {
		before := copied(c.files)
		if got := build.Check(c.files); got != c.e {
			t.Errorf("%s: %d, not %d", c.name, got, c.e)
		}
		if !same(before, c.files) {
			t.Errorf("%s: the files were turned", c.name)
		}
	}
}

func TestTotal(t *testing.T) {
	over := make([]byte, api.MaxObject+1)
	for i, c := range []struct {
		files []api.File
		n     int
		size  int64
	}{
		{nil, 0, 0},
		{[]api.File{}, 0, 0},
		{paths("a"), 1, 0},
		{files("a", "abc", "b/c", "de", "b/d", ""), 3, 5},
		// Whether they are right isn't asked.
		{files("b", "abc", "a", "de", "a", "f", "", "g", "a/b", "h"), 5, 8},
		{many(513), 513, 0},
		{[]api.File{{Data: over}, {Data: over}}, 2, 2*api.MaxObject + 2},
	} {
		if n, size := build.Total(c.files); n != c.n || size != c.size {
			t.Errorf("case %d: %d files, %d bytes", i, n, size)
		}
	}
}
