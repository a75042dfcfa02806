package tree_test

import (
	"math"
	"math/rand"
	"slices"
	"strconv"
	"strings"
	"testing"

	"coldstore/api"
	"coldstore/tree"
)

// id is a sum of one byte.
func id(n int) api.ID {
	return api.ID{byte(n), 31: byte(n >> 8)}
}

// ids is so many sums, from one on.
func ids(n, from int) []api.ID {
	list := make([]api.ID, n)
	for i := range list {
		list[i] = id(from + i)
	}
	return list
}

// file is a file of a name.
func file(name string) tree.Node {
	return tree.Node{Name: name}
}

// some is so many nodes of a right list, files and directories by turns.
func some(n int) []tree.Node {
	var list []tree.Node
	for i := range n {
		name := "n" + strconv.Itoa(10000+i)
		if i%3 == 1 {
			list = append(list, tree.Node{Name: name, Dir: true, Sub: id(i)})
		} else {
			list = append(list, tree.Node{Name: name, Size: int64(i * i), Parts: ids(i%5, i)})
		}
	}
	return list
}

// sameNode tells whether two nodes are the same one.
func sameNode(a, b tree.Node) bool {
	return a.Name == b.Name && a.Dir == b.Dir && a.Size == b.Size && a.Sub == b.Sub && slices.Equal(a.Parts, b.Parts)
}

// same tells whether two lists have the same nodes.
func same(a, b []tree.Node) bool {
	return slices.EqualFunc(a, b, sameNode)
}

// copied is a list that shares no memory with the one that it is of.
func copied(list []tree.Node) []tree.Node {
	list = slices.Clone(list)
	for i := range list {
		list[i].Parts = slices.Clone(list[i].Parts)
	}
	return list
}

// hold holds what is said to be wrong with a list against what must be, by Check and by Encode.
func hold(t *testing.T, list []tree.Node, want api.Errno) {
	t.Helper()
	if got := tree.Check(list); got != want {
		t.Errorf("%d nodes: %d, not %d", len(list), got, want)
	}
	if b, e := tree.Encode(list); e != want || e == api.OK && len(b) == 0 || e != api.OK && len(b) != 0 {
		t.Errorf("%d nodes, encoded: %d bytes, %d, not %d", len(list), len(b), e, want)
	}
}

func TestCheck(t *testing.T) {
	sub, parts := id(1), ids(1, 1)
	for i, c := range []struct {
		list []tree.Node
		e    api.Errno
	}{
		{nil, api.OK},
		{[]tree.Node{}, api.OK},
		{[]tree.Node{file("a")}, api.OK},
		{[]tree.Node{{Name: "a", Size: math.MaxInt64, Parts: ids(9, 0)}}, api.OK},
		{[]tree.Node{{Name: "a", Parts: []api.ID{{}, {}}}}, api.OK},
		{[]tree.Node{{Name: "a", Parts: []api.ID{}}}, api.OK},
		{[]tree.Node{{Name: "a", Size: 5}}, api.OK},
		{[]tree.Node{{Name: "a", Dir: true}}, api.OK},
		{[]tree.Node{{Name: "a", Dir: true, Sub: sub, Parts: []api.ID{}}}, api.OK},
		{[]tree.Node{file("a"), file("b")}, api.OK},
		{[]tree.Node{file("-"), file(".a"), file("0"), file("_"), file("a"), file("a-"), file("a.b"), file("aa"), file("b")}, api.OK},

		{[]tree.Node{file("")}, api.ErrPath},
		{[]tree.Node{file(".")}, api.ErrPath},
		{[]tree.Node{file("..")}, api.ErrPath},
		{[]tree.Node{file("a/b")}, api.ErrPath},
		{[]tree.Node{file("a/")}, api.ErrPath},
		{[]tree.Node{file("/")}, api.ErrPath},
		{[]tree.Node{file("A")}, api.ErrPath},
		{[]tree.Node{file("a b")}, api.ErrPath},
		{[]tree.Node{file("a"), file("b/c")}, api.ErrPath},

		{[]tree.Node{file("a"), file("a")}, api.ErrOrder},
		{[]tree.Node{file("b"), file("a")}, api.ErrOrder},
		{[]tree.Node{file("aa"), file("a")}, api.ErrOrder},
		{[]tree.Node{file("a"), file("10"), file("9")}, api.ErrOrder},
		{[]tree.Node{file("a"), {Name: "a", Dir: true}}, api.ErrOrder},
		{[]tree.Node{file("a"), file("c"), file("b")}, api.ErrOrder},
		// Not as numbers, or paths, are ordered: byte by byte.
		{[]tree.Node{file("10"), file("9")}, api.OK},
		{[]tree.Node{file("a.b"), file("a-b")}, api.ErrOrder},

		{[]tree.Node{{Name: "a", Size: -1}}, api.ErrForm},
		{[]tree.Node{{Name: "a", Size: math.MinInt64}}, api.ErrForm},
		{[]tree.Node{{Name: "a", Sub: sub}}, api.ErrForm},
		{[]tree.Node{{Name: "a", Sub: api.ID{31: 1}}}, api.ErrForm},
		{[]tree.Node{{Name: "a", Sub: api.ID{16: 128}, Parts: parts}}, api.ErrForm},
		{[]tree.Node{{Name: "a", Dir: true, Size: 1}}, api.ErrForm},
		{[]tree.Node{{Name: "a", Dir: true, Size: -1}}, api.ErrForm},
		{[]tree.Node{{Name: "a", Dir: true, Size: math.MinInt64}}, api.ErrForm},
		{[]tree.Node{{Name: "a", Dir: true, Parts: parts}}, api.ErrForm},
		{[]tree.Node{{Name: "a", Dir: true, Parts: []api.ID{{}}}}, api.ErrForm},
		{[]tree.Node{file("a"), {Name: "b", Size: -1}}, api.ErrForm},

		{[]tree.Node{{Name: "a", Parts: ids(4096, 0)}}, api.OK},
		{[]tree.Node{{Name: "a", Parts: ids(4097, 0)}}, api.ErrMany},
		{[]tree.Node{file("a"), {Name: "b", Parts: ids(5000, 0)}}, api.ErrMany},
		{[]tree.Node{{Name: "a", Parts: ids(4096, 0)}, {Name: "b", Parts: ids(4096, 0)}}, api.OK},
	} {
		before := copied(c.list)
		hold(t, c.list, c.e)
		if !same(before, c.list) {
			t.Errorf("case %d: the list was turned", i)
		}
		if t.Failed() {
			t.Fatalf("case %d", i)
		}
	}
}

func TestTheFirstErrorIsTold(t *testing.T) {
	many := ids(4097, 0)
	for i, c := range []struct {
		list []tree.Node
		e    api.Errno
	}{
		// Of one node.
		{[]tree.Node{file("b"), {Name: "", Size: -1, Parts: many}}, api.ErrPath},
		{[]tree.Node{file("b"), {Name: "A", Size: -1}}, api.ErrPath},
		{[]tree.Node{file("b"), {Name: "a", Size: -1, Parts: many}}, api.ErrOrder},
		{[]tree.Node{file("b"), {Name: "a", Parts: many}}, api.ErrOrder},
		{[]tree.Node{{Name: "b", Size: -1, Parts: many}}, api.ErrForm},
		{[]tree.Node{{Name: "b", Sub: id(1), Parts: many}}, api.ErrForm},
		{[]tree.Node{{Name: "b", Dir: true, Parts: many}}, api.ErrForm},
		// Of two, that of the one ahead.
		{[]tree.Node{{Name: "a", Parts: many}, file("")}, api.ErrMany},
		{[]tree.Node{{Name: "a", Size: -1}, file("")}, api.ErrForm},
		{[]tree.Node{{Name: "a", Size: -1}, file("a")}, api.ErrForm},
		{[]tree.Node{file("b"), file("a"), file("")}, api.ErrOrder},
		{[]tree.Node{file("B"), file("a"), {Name: "c", Size: -1}}, api.ErrPath},
		// Too many nodes, ahead of all that.
		{slices.Repeat([]tree.Node{file("")}, 513), api.ErrMany},
		{slices.Repeat([]tree.Node{file("a")}, 513), api.ErrMany},
		{slices.Repeat([]tree.Node{file("")}, 512), api.ErrPath},
		{slices.Repeat([]tree.Node{file("a")}, 512), api.ErrOrder},
	} {
		hold(t, c.list, c.e)
		if t.Failed() {
			t.Fatalf("case %d", i)
		}
	}
}

func TestManyNodes(t *testing.T) {
	hold(t, some(511), api.OK)
	hold(t, some(512), api.OK)
	hold(t, some(513), api.ErrMany)
	hold(t, some(20000), api.ErrMany)
	wrong := some(512)
	wrong[511].Size, wrong[511].Dir = -1, false
	hold(t, wrong, api.ErrForm)
	wrong[511].Name = wrong[510].Name
	hold(t, wrong, api.ErrOrder)
	wrong[511].Name = "N"
	hold(t, wrong, api.ErrPath)
}

func TestNames(t *testing.T) {
	good := "abcdefghijklmnopqrstuvwxyz0123456789._-"
	for c := range 256 {
		b := string([]byte{byte(c)})
		want := api.ErrPath
		if strings.Contains(good, b) {
			want = api.OK
		}
		for _, name := range []string{b + "a", "a" + b, "a" + b + "a", strings.Repeat("z", 39) + b} {
			hold(t, []tree.Node{file(name)}, want)
			hold(t, []tree.Node{{Name: name, Dir: true, Sub: id(7)}}, want)
		}
	}
	for name, want := range map[string]api.Errno{
		strings.Repeat("z", 40):     api.OK,
		strings.Repeat("z", 41):     api.ErrPath,
		strings.Repeat("z", 120):    api.ErrPath,
		strings.Repeat("z", 100000): api.ErrPath,
		"...":                       api.OK,
		"..a":                       api.OK,
		".a":                        api.OK,
		"é":                         api.ErrPath,
	} {
		hold(t, []tree.Node{file(name)}, want)
	}
}

func TestFind(t *testing.T) {
	list := []tree.Node{
		{Name: "b", Size: 3, Parts: ids(2, 5)},
		{Name: "a", Dir: true, Sub: id(9)},
		// No right list, but a list.
		{Name: "b", Dir: true, Size: -4, Parts: ids(3, 1), Sub: id(1)},
		{Name: "", Size: 7},
		{Name: "A/ \xff", Dir: true, Size: -4, Parts: ids(3, 1), Sub: id(1)},
	}
	for name, at := range map[string]int{"b": 0, "a": 1, "": 3, "A/ \xff": 4} {
		if n, ok := tree.Find(list, name); !ok || !sameNode(n, list[at]) {
			t.Errorf("%q: %v %v", name, n, ok)
		}
	}
	for _, name := range []string{"c", "B", "ab", "b/", "A", strings.Repeat("b", 1000)} {
		if n, ok := tree.Find(list, name); ok || !sameNode(n, tree.Node{}) {
			t.Errorf("%q: %v %v", name, n, ok)
		}
	}
	for _, none := range [][]tree.Node{nil, {}} {
		if n, ok := tree.Find(none, "a"); ok || !sameNode(n, tree.Node{}) {
			t.Errorf("%v %v", n, ok)
		}
	}
	all := some(600)
	for i := range all {
		if n, ok := tree.Find(all, all[i].Name); !ok || !sameNode(n, all[i]) {
			t.Errorf("node %d: %v %v", i, n, ok)
		}
	}
}

func TestWhatIsFoundIsTheCallersOwn(t *testing.T) {
	list := []tree.Node{{Name: "a", Size: 3, Parts: ids(3, 5)}}
	list[0].Parts = list[0].Parts[:2]
	one, _ := tree.Find(list, "a")
	two, _ := tree.Find(list, "a")
	clear(one.Parts)
	_ = append(one.Parts, api.ID{9})
	if !slices.Equal(list[0].Parts[:3], ids(3, 5)) || !slices.Equal(two.Parts, ids(2, 5)) {
		t.Errorf("%v %v", list[0].Parts[:3], two.Parts)
	}
	clear(list[0].Parts)
	if !slices.Equal(two.Parts, ids(2, 5)) {
		t.Errorf("what was handed in was kept: %v", two.Parts)
	}
}

func TestBlobs(t *testing.T) {
	for i, c := range []struct {
		list []tree.Node
		want []api.ID
	}{
		{nil, nil},
		{[]tree.Node{}, nil},
		{[]tree.Node{file("a")}, nil},
		{[]tree.Node{{Name: "a", Dir: true}}, []api.ID{{}}},
		{[]tree.Node{{Name: "a", Parts: ids(3, 7)}}, ids(3, 7)},
		{[]tree.Node{{Name: "a", Parts: []api.ID{id(2), id(1), id(2)}}}, []api.ID{id(2), id(1), id(2)}},
		{[]tree.Node{{Name: "a", Parts: ids(2, 8)}, {Name: "b", Dir: true, Sub: id(8)}, {Name: "c"}, {Name: "d", Parts: ids(2, 1)}}, []api.ID{id(8), id(9), id(8), id(1), id(2)}},
		// Of no right list: a file's Parts, and a directory's Sub, alone.
		{[]tree.Node{{Name: "b", Sub: id(5)}, {Name: "", Size: -1, Sub: id(5), Parts: ids(1, 6)}, {Name: "b", Dir: true, Sub: id(7), Parts: ids(4, 0)}}, []api.ID{id(6), id(7)}},
		{[]tree.Node{{Parts: ids(5000, 0)}}, ids(5000, 0)},
	} {
		if got := slices.Collect(tree.Blobs(c.list)); !slices.Equal(got, c.want) {
			t.Errorf("case %d: %v", i, got)
		}
	}
	var want []api.ID
	for _, n := range some(700) {
		if n.Dir {
			want = append(want, n.Sub)
		} else {
			want = append(want, n.Parts...)
		}
	}
	if got := slices.Collect(tree.Blobs(some(700))); !slices.Equal(got, want) {
		t.Errorf("%d sums, not %d", len(got), len(want))
	}
}

func TestBlobsAgainAndStopped(t *testing.T) {
	list := []tree.Node{{Name: "a", Parts: ids(2, 1)}, {Name: "b", Dir: true, Sub: id(3)}, {Name: "c", Parts: ids(3, 4)}}
	blobs := tree.Blobs(list)
	for stop := 1; stop <= 6; stop++ {
		var got []api.ID
		for sum := range blobs {
			got = append(got, sum)
			if len(got) == stop {
				break
			}
		}
		if !slices.Equal(got, ids(stop, 1)) {
			t.Errorf("stopped behind %d: %v", stop, got)
		}
	}
	// What was handed in may be written over behind the call.
	clear(list[0].Parts)
	clear(list)
	pairs := 0
	for range blobs {
		for range blobs {
			pairs++
		}
	}
	if got := slices.Collect(blobs); !slices.Equal(got, ids(6, 1)) || pairs != 36 {
		t.Errorf("again: %v, %d pairs", got, pairs)
	}
}

func TestBlobsLeaveTheirList(t *testing.T) {
	memory := ids(6, 1)
	list := []tree.Node{{Name: "a", Parts: memory[:2]}, {Name: "b", Dir: true, Sub: id(30)}, {Name: "c", Parts: memory[4:5]}}
	for range tree.Blobs(list) {
	}
	if !slices.Equal(memory, ids(6, 1)) {
		t.Errorf("the list was turned: %v", memory)
	}
}

// randomly is a list that is mostly right, but for some turn.
func randomly(r *rand.Rand) []tree.Node {
	list := some(r.Intn(5))
	for i := range list {
		switch n := &list[i]; r.Intn(14) {
		case 0:
			n.Name = []string{"", "a", "z/z", "Q", "n10001"}[r.Intn(5)]
		case 1:
			n.Dir = !n.Dir
		case 2:
			n.Size = int64(r.Intn(5)) - 2
		case 3:
			n.Parts = ids(r.Intn(3), 3)
		case 4:
			n.Sub = id(r.Intn(2))
		}
	}
	return list
}

// wrong is what is wrong with a list, as the chapter says it; there are never too many.
func wrong(list []tree.Node) api.Errno {
	last := ""
	for _, n := range list {
		switch {
		case n.Name == "" || strings.ContainsAny(n.Name, "/Q"):
			return api.ErrPath
		case strings.Compare(last, n.Name) >= 0:
			return api.ErrOrder
		case n.Size < 0, n.Dir && n.Size > 0, n.Dir && len(n.Parts) > 0, !n.Dir && n.Sub != id(0):
			return api.ErrForm
		}
		last = n.Name
	}
	return api.OK
}

func TestCheckOfManyLists(t *testing.T) {
	r := rand.New(rand.NewSource(2))
	told := map[api.Errno]int{}
	for range 20000 {
		list := randomly(r)
		hold(t, list, wrong(list))
		told[wrong(list)]++
	}
	if len(told) != 4 {
		t.Errorf("%v", told)
	}
}
