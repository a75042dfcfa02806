package path_test

import (
	"math/rand"
	"slices"
	"strings"
	"testing"

	"coldstore/api"
	"coldstore/path"
)

// texts is all texts of at most so many of some pieces.
func texts(most int, pieces ...string) []string {
	all := []string{""}
	last := all
	for range most {
		var next []string
		for _, ahead := range last {
			for _, piece := range pieces {
				next = append(next, ahead+piece)
			}
		}
		all = append(all, next...)
		last = next
	}
	return all
}

// letters is so many bytes of one letter.
func letters(n int) string {
	return strings.Repeat("x", n)
}

// isPart tells whether a text is a part, as the chapter says it.
func isPart(s string) bool {
	return s != "" && len(s) <= 40 && s != "." && s != ".." && strings.Trim(s, "abcdefghijklmnopqrstuvwxyz0123456789._-") == "" && !strings.ContainsAny(s, "/A")
}

// isPath tells whether a text is a path, as the chapter says it.
func isPath(s string) bool {
	return len(s) <= 120 && !slices.ContainsFunc(strings.Split(s, "/"), func(part string) bool { return !isPart(part) })
}

// errorOf is ErrPath, unless something holds.
func errorOf(holds bool) api.Errno {
	if holds {
		return api.OK
	}
	return api.ErrPath
}

func TestCheck(t *testing.T) {
	long := letters(40) + "/" + letters(40) + "/"
	for p, want := range map[string]bool{
		"a": true, "a/b": true, "a/b/c.txt": true, "...": true, ".a": true, "a.": true, "..a": true, "-": true, "_": true, "0/9/a/z": true, "-._": true, ".../..a/.-": true,
		"": false, "/": false, "//": false, "/a": false, "a/": false, "a//b": false, ".": false, "..": false, "a/.": false, "a/..": false, "./a": false, "../a": false, "a/./b": false, "a/../b": false,
		"A": false, "a/B": false, "a b": false, "a\\b": false, "a\x00": false, "é": false, "\xff": false, "a\n": false, "a:b": false, "a+": false,
		letters(1): true, letters(40): true, letters(41): false, "a/" + letters(40): true, "a/" + letters(41): false, letters(41) + "/a": false,
		long + letters(38): true, long + letters(39): false, long + letters(36) + "/a": true, long + letters(37) + "/a": false,
		strings.Repeat("a/", 59) + "a": true, strings.Repeat("a/", 59) + "aa": true, strings.Repeat("a/", 60) + "a": false,
		letters(100000): false, strings.Repeat("/", 100000): false,
	} {
		if got := path.Check(p); got != errorOf(want) {
			t.Errorf("%.200q: %d", p, got)
		}
	}
}

func TestCheckOfEachByte(t *testing.T) {
	good := "abcdefghijklmnopqrstuvwxyz0123456789._-"
	for c := range 256 {
		b := string([]byte{byte(c)})
		want := errorOf(strings.Contains(good, b))
		for _, p := range []string{b + "a", "a" + b + "a", "a" + b, "a/" + b + "b", "b" + b + "/a", letters(39) + b} {
			// A separator makes other parts of these, which aren't all none.
			if got := path.Check(p); b != "/" && got != want {
				t.Errorf("%q: %d", p, got)
			}
		}
	}
}

func TestCheckOfAllShortTexts(t *testing.T) {
	for _, p := range texts(6, "a", "9", ".", "/", "A") {
		if got := path.Check(p); got != errorOf(isPath(p)) {
			t.Errorf("%q: %d", p, got)
		}
	}
}

func TestClean(t *testing.T) {
	many := strings.Repeat(letters(40)+"/", 100)
	up := strings.Repeat("../", 100)
	long := letters(40) + "/" + letters(40) + "/"
	for p, want := range map[string]string{
		"a//b/./../c":  "a/c",
		"a":            "a",
		"a/b/c":        "a/b/c",
		"/a":           "a",
		"a/":           "a",
		"///a///b///":  "a/b",
		"./a/.":        "a",
		"a/..":         "",
		"a/../b":       "b",
		"a/b/..":       "a",
		"a/b/../..":    "",
		"a/b/../../c":  "c",
		"a/../..":      "",
		"a/../../b":    "",
		"..":           "",
		"../a":         "",
		"/../a":        "",
		"./../a":       "",
		".":            "",
		"":             "",
		"/":            "",
		"./././":       "",
		".../a/...":    ".../a/...",
		"a/.../..":     "a",
		"a/A":          "",
		"A/../a":       "",
		"a/b c/../d":   "",
		"a\x00/../b":   "",
		"é/../b":       "",
		letters(40):    letters(40),
		letters(41):    "",
		"//a/../../b/": "",

		letters(41) + "/../a":             "",
		long + letters(38):                long + letters(38),
		long + letters(39):                "",
		long + "///./" + letters(38):      long + letters(38),
		long + letters(38) + "/..":        letters(40) + "/" + letters(40),
		long + "b/../" + letters(38):      long + letters(38),
		long + "b/../" + letters(39):      "",
		many + up + "a":                   "a",
		many + up:                         "",
		many + up + "..":                  "",
		many:                              "",
		strings.Repeat("/", 5000) + "a":   "a",
		strings.Repeat("./", 5000) + "a":  "a",
		strings.Repeat("a/", 59) + "aa/":  strings.Repeat("a/", 59) + "aa",
		strings.Repeat("a/", 60) + "a":    "",
		strings.Repeat("a/../", 200) + "": "",
	} {
		if got, e := path.Clean(p); got != want || e != errorOf(want != "") {
			t.Errorf("%.300q: %q %d", p, got, e)
		}
	}
}

// meant is the path that a text means, found by taking away, from the left, each .. with the part ahead.
func meant(p string) (string, bool) {
	parts := strings.Split(p, "/")
	parts = slices.DeleteFunc(parts, func(part string) bool { return part == "" || part == "." })
	for _, part := range parts {
		if part != ".." && !isPart(part) {
			return "", false
		}
	}
	for {
		i := slices.Index(parts, "..")
		if i == 0 {
			return "", false
		}
		if i < 0 {
			break
		}
		parts = slices.Delete(parts, i-1, i+1)
	}
	whole := strings.Join(parts, "/")
	if whole == "" || len(whole) > 120 {
		return "", false
	}
	return whole, true
}

// checkClean holds what Clean answers against meant, and against what is promised of each clean path.
func checkClean(t *testing.T, p string) {
	t.Helper()
	want, ok := meant(p)
	got, e := path.Clean(p)
	if got != want || e != errorOf(ok) {
		t.Errorf("%q: %q %d, not %q %v", p, got, e, want, ok)
	}
	if e == api.OK {
		if again, e := path.Clean(got); path.Check(got) != api.OK || again != got || e != api.OK {
			t.Errorf("%q is clean, but: %q %d", got, again, e)
		}
	}
	if path.Check(p) == api.OK && (e != api.OK || got != p) {
		t.Errorf("the path %q isn't clean: %q %d", p, got, e)
	}
}

func TestCleanOfAllShortTexts(t *testing.T) {
	for _, p := range texts(8, "a", ".", "/") {
		checkClean(t, p)
	}
	for _, p := range texts(6, "a/", "b/", "./", "../", "/", "A/") {
		checkClean(t, p)
	}
}

func TestCleanOfLongTexts(t *testing.T) {
	r := rand.New(rand.NewSource(5))
	for range 3000 {
		var parts []string
		for range r.Intn(14) {
			parts = append(parts, []string{letters(1 + r.Intn(40)), letters(1 + r.Intn(20)), "..", ".", ""}[r.Intn(5)])
		}
		checkClean(t, strings.Join(parts, "/"))
	}
}

func TestParentBaseAndJoin(t *testing.T) {
	for _, c := range [][3]string{
		{"a/b", "a", "b"},
		{"a/b/c", "a/b", "c"},
		{"a/", "a", ""},
		{"a//b", "a/", "b"},
		{"a//", "a/", ""},
		{"A b/\xff", "A b", "\xff"},
		{letters(300) + "/" + letters(400), letters(300), letters(400)},
	} {
		if parent, base := path.Parent(c[0]), path.Base(c[0]); parent != c[1] || base != c[2] {
			t.Errorf("%q: %q, %q", c[0], parent, base)
		}
		if whole := path.Join(c[1], c[2]); whole != c[0] {
			t.Errorf("%q, %q: %q", c[1], c[2], whole)
		}
	}
	for _, c := range [][3]string{{"", "", ""}, {"a", "", "a"}, {"..", "", ".."}, {"/a", "", "a"}, {"/", "", ""}, {"//", "/", ""}, {"/a/b", "/a", "b"}} {
		if parent, base := path.Parent(c[0]), path.Base(c[0]); parent != c[1] || base != c[2] {
			t.Errorf("%q: %q, %q", c[0], parent, base)
		}
	}
	for _, c := range [][3]string{{"", "", ""}, {"", "a", "a"}, {"", "/a", "/a"}, {"a", "", "a/"}, {"/", "a", "//a"}, {"a/", "/b", "a///b"}, {"a/b", "c/d", "a/b/c/d"}, {"..", ".", "../."}} {
		if whole := path.Join(c[0], c[1]); whole != c[2] {
			t.Errorf("%q, %q: %q", c[0], c[1], whole)
		}
	}
}

func TestLess(t *testing.T) {
	for _, c := range []struct {
		a, b string
		less bool
	}{
		{"", "", false}, {"", "a", true}, {"a", "", false}, {"a", "a", false}, {"a", "b", true}, {"b", "a", false},
		{"a", "a/b", true}, {"a/b", "a", false}, {"a", "ab", true}, {"a/z", "ab", true}, {"ab", "a/z", false},
		{"a/b", "a.b", true}, {"a.b", "a/b", false}, {"a/b", "a-b", true}, {"a-b", "a/b", false}, {"a/b", "a\x00b", true}, {"a\x00b", "a/b", false},
		{"a/b/c", "a/b-/c", true}, {"a/c", "a/b/c", false}, {"z", "aa", false}, {"a", "\xff", true}, {"\x7f", "\x80", true}, {"é", "z", false},
		{"", "/", true}, {"/", "", false}, {"/a", "a", true}, {"a/", "a/a", true}, {"a", "a/", true}, {"a//b", "a/b", true}, {"a/", "a-", true},
	} {
		if got := path.Less(c.a, c.b); got != c.less {
			t.Errorf("%q, %q: %v", c.a, c.b, got)
		}
	}
}

func TestLessGoesPartByPart(t *testing.T) {
	all := texts(4, "a", "-", "/", "\x00", "\xff")
	for _, a := range all {
		for _, b := range all {
			want := slices.Compare(strings.Split(a, "/"), strings.Split(b, "/")) < 0
			if got := path.Less(a, b); got != want {
				t.Errorf("%q, %q: %v", a, b, got)
			}
		}
	}
}

func TestWithin(t *testing.T) {
	for _, c := range []struct {
		p, dir string
		within bool
	}{
		{"", "", true}, {"a", "", true}, {"/", "", true}, {"A b", "", true},
		{"a/b", "a", true}, {"a/b/c", "a", true}, {"a/b/c", "a/b", true}, {"a/", "a", true}, {"/a", "/", false}, {"//a", "/", true},
		{"a", "a", false}, {"ab", "a", false}, {"ab/c", "a", false}, {"a", "a/b", false}, {"b/a", "a", false}, {"", "a", false}, {"a-/b", "a", false}, {"a/bc", "a/b", false},
		{"a/b", "a/", false}, {"a//b", "a/", true}, {"A/b", "a", false}, {letters(500) + "/a", letters(500), true},
	} {
		if got := path.Within(c.p, c.dir); got != c.within {
			t.Errorf("%q in %q: %v", c.p, c.dir, got)
		}
	}
	all := texts(4, "a", "-", "/")
	for _, p := range all {
		for _, dir := range all {
			if got := path.Within(p, dir); got != (dir == "" || strings.HasPrefix(p, dir+"/")) {
				t.Errorf("%q in %q: %v", p, dir, got)
			}
		}
	}
}

// sorted is paths, as Less orders them.
func sorted(paths []string) []string {
	list := slices.Clone(paths)
	slices.SortFunc(list, func(a, b string) int {
		switch {
		case path.Less(a, b):
			return -1
		case path.Less(b, a):
			return 1
		}
		return 0
	})
	return list
}

func TestPathsInADirectoryStandSideBySide(t *testing.T) {
	paths := slices.DeleteFunc(texts(6, "a", "-", ".", "/"), func(p string) bool { return path.Check(p) != api.OK })
	list := sorted(paths)
	for _, dir := range paths {
		runs, found, in := 0, 0, false
		for _, p := range list {
			now := path.Within(p, dir)
			if now {
				found++
			}
			if now && !in {
				runs++
			}
			in = now
		}
		if runs > 1 || strings.Count(dir, "") <= 5 && found == 0 {
			t.Errorf("%q: %d paths in %d runs", dir, found, runs)
		}
	}
}

func TestParts(t *testing.T) {
	for p, want := range map[string][]string{
		"":            {""},
		"a":           {"a"},
		"a/b/c":       {"a", "b", "c"},
		"/":           {"", ""},
		"a/":          {"a", ""},
		"/a":          {"", "a"},
		"a//b":        {"a", "", "b"},
		"../A b/\xff": {"..", "A b", "\xff"},
	} {
		if got := slices.Collect(path.Parts(p)); !slices.Equal(got, want) {
			t.Errorf("%q: %q", p, got)
		}
	}
	for _, p := range texts(6, "a", ".", "/") {
		if got := slices.Collect(path.Parts(p)); !slices.Equal(got, strings.Split(p, "/")) {
			t.Errorf("%q: %q", p, got)
		}
	}
}

func TestPartsAgainAndStopped(t *testing.T) {
	whole := []string{"a", "", "b", "c", ""}
	parts := path.Parts("a//b/c/")
	for stop := range len(whole) {
		var got []string
		for part := range parts {
			got = append(got, part)
			if len(got) == stop+1 {
				break
			}
		}
		if !slices.Equal(got, whole[:stop+1]) {
			t.Errorf("stopped behind %d: %q", stop+1, got)
		}
		if got := slices.Collect(parts); !slices.Equal(got, whole) {
			t.Errorf("again, behind a stop: %q", got)
		}
	}
	pairs := 0
	for range parts {
		for range parts {
			pairs++
		}
	}
	if pairs != len(whole)*len(whole) {
		t.Errorf("within itself: %d pairs", pairs)
	}
}
