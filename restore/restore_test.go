package restore_test

import (
	"math"
	"slices"
	"testing"

	"coldstore/api"
	"coldstore/guard"
	"coldstore/pack"
	"coldstore/restore"
	"coldstore/tree"
)

func TestATreeThatIsHot(t *testing.T) {
	w := empty(t)
	low := dir(t, file("a", "3", "1"))
	root := dir(t, tree.Node{Name: "d", Dir: true, Sub: sum(low)}, file("e", "22", "1"), file("f"))
	w.save(low, root)
	w.save("1", "22", "3")
	g := w.begin(root, 0)
	// The trees twice, and the chunks as they come.
	g.step(7, 0, -1, true, api.OK, 2+2+4, 0)
	g.has("d/a", "31", "e", "221", "f", "")
	g.stands(0)
}

func TestATreeWithoutFiles(t *testing.T) {
	w := empty(t)
	root := dir(t)
	w.save(root)
	g := w.begin(root, -3)
	g.step(0, 1, 1, true, api.OK, 2, 0)
	g.has()
}

func TestWhatIsColdIsAskedForAndHadBack(t *testing.T) {
	w := empty(t)
	root := dir(t, file("a", "one", "hot", "two"), file("b", "three", "two"))
	w.save(root, "hot")
	w.freeze("one", "nobody's")
	w.freeze("two", "three")
	w.freeze("nobody's, too")
	g := w.begin(root, 100)
	g.step(0, 9, 3, false, api.OK, 1, 2)
	g.stands(2)
	for now := range int64(3) {
		g.step(now, 9, 3, false, api.OK, 1, 0)
	}
	g.stands(2)
	g.step(3, 9, 3, true, api.OK, 1+2, 2)
	g.has("a", "onehottwo", "b", "threetwo")
	g.stands(2, "one", "two", "three")
	if w.ice.Pending(0) != 2 {
		t.Error("what isn't needed was asked for")
	}
}

func TestWhatIsDoneDoesNothing(t *testing.T) {
	w := empty(t)
	root := dir(t, file("a", "one"))
	w.save(root)
	w.freeze("one")
	g := w.begin(root, 3)
	g.step(0, 1, 0, false, api.OK, 1, 1)
	g.step(0, 1, 0, true, api.OK, 2, 1)
	w.must(w.Commit(w.Index()))
	for _, now := range []int64{0, 100, math.MinInt64, math.MaxInt64} {
		fuse := guard.NewFuse(0)
		w.hot.Arm(fuse, []bool{true})
		w.ice.Arm(fuse, []bool{true})
		g.step(now, -1, -1, true, api.OK, 0, 0)
		g.has("a", "one")
		g.stands(1, "one")
	}
	w.hot.Arm(nil, nil)
	w.ice.Arm(nil, nil)
	// What becomes of the tree makes no difference.
	for _, name := range []string{"index", "pack"} {
		names, e := w.hot.List(name)
		w.must(e)
		for _, n := range names {
			w.must(w.hot.Drop(n))
		}
	}
	g.step(0, 1, 1, true, api.OK, 0, 0)
	g.has("a", "one")
}

func TestBatchesOfPacks(t *testing.T) {
	for _, batch := range []int{math.MinInt, -1, 0} {
		w := empty(t)
		root := dir(t, file("a", "one"))
		w.save(root)
		w.freeze("one")
		g := w.begin(root, 100)
		for now := range int64(9) {
			g.step(now, batch, 1, false, api.OK, 1, 0)
		}
		g.stands(0)
	}
	w := empty(t)
	root := dir(t, file("a", "1", "2", "3", "4", "5"))
	w.save(root)
	packs := []api.ID{w.freeze("1"), w.freeze("2"), w.freeze("3"), w.freeze("4"), w.freeze("5")}
	g := w.begin(root, 100)
	g.step(0, 2, 2, false, api.OK, 1, 2)
	// Those of the least sums are asked for first.
	for i, id := range sorted(packs...) {
		if w.ice.State(named(id), 0) != min(max(2-i, 0), 1) {
			t.Errorf("the pack at %d is %d", i, w.ice.State(named(id), 0))
		}
	}
	g.step(1, 2, 2, false, api.OK, 1, 2)
	g.stands(4)
	// Two are got, and the last one is asked for.
	g.step(2, 2, 2, false, api.OK, 1, 2+1)
	g.step(3, 2, 2, false, api.OK, 1, 2)
	g.step(4, 2, 2, true, api.OK, 2, 1)
	g.has("a", "12345")
	g.stands(5, "1", "2", "3", "4", "5")
}

func TestAsManyJobsAsMayBe(t *testing.T) {
	w := worldOf(t, 2, 5, 0)
	root := dir(t, file("a", "1", "2", "3"))
	w.save(root)
	other := w.freeze("other")
	w.freeze("1")
	w.freeze("2")
	w.freeze("3")
	w.must(w.ice.Request(named(other), 0, 4))
	g := w.begin(root, 100)
	// One is asked for; of the next one it is told that there are jobs enough, which is no error.
	g.step(0, 9, 2, false, api.OK, 1, 2)
	g.stands(1)
	g.step(1, 9, 2, false, api.OK, 1, 1)
	g.stands(1)
	g.step(2, 9, 2, false, api.OK, 1, 1+2)
	g.step(4, 9, 2, false, api.OK, 1, 1+1)
	g.step(6, 9, 2, true, api.OK, 2, 1)
	g.has("a", "123")
	g.stands(3, "1", "2", "3")
	if w.ice.State(named(other), 4) != 2 {
		t.Error("another one's job")
	}
}

func TestWhatFrozeAgainIsAskedForAgain(t *testing.T) {
	w := empty(t)
	root := dir(t, file("a", "1", "2"))
	w.save(root)
	one, two := w.freeze("1"), w.freeze("2")
	g := w.begin(root, 100)
	g.step(0, 9, 3, false, api.OK, 1, 2)
	g.step(8, 9, 3, false, api.OK, 1, 2)
	g.stands(4)
	// A job that fails is asked for again, too.
	if !w.ice.Fail(named(one), 9) {
		t.Fatal("no job")
	}
	g.step(9, 9, 30, false, api.OK, 1, 1)
	g.stands(5)
	g.step(11, 9, 3, false, api.OK, 1, 1)
	g.stands(5, "2")
	// What is staged isn't needed any more, so that it makes no difference that its pack froze, or is gone.
	w.must(w.ice.Drop(named(two), 11, false))
	g.step(20, 9, 3, false, api.OK, 1, 0)
	g.step(39, 9, 3, true, api.OK, 2, 1)
	g.has("a", "12")
	g.stands(5, "1", "2")
}

func TestWhatSomebodyElseAskedFor(t *testing.T) {
	w := empty(t)
	root := dir(t, file("a", "1", "2"))
	w.save(root)
	w.must(w.ice.Request(named(w.freeze("1")), 0, 0))
	w.must(w.ice.Request(named(w.freeze("2")), 0, 2))
	g := w.begin(root, 100)
	g.step(0, 9, -1, false, api.OK, 1, 1)
	g.stands(0, "1")
	g.step(2, 9, -1, true, api.OK, 2, 1)
	g.has("a", "12")
	g.stands(0, "1", "2")
}

func TestRoom(t *testing.T) {
	for room, want := range map[int]api.Errno{6: api.OK, 7: api.OK, math.MaxInt: api.OK, 5: api.ErrFull} {
		w := empty(t)
		root := dir(t, file("a", "xyz", "a", "bc"))
		w.save(root)
		w.must(w.ice.Request(named(w.freeze("bc", "dead", "a", "xyz")), 0, 0))
		g := w.begin(root, room)
		if want == api.OK {
			g.step(0, 9, 1, true, api.OK, 2, 1)
			g.has("a", "xyzabc")
			g.stands(0, "xyz", "a", "bc")
			continue
		}
		// Blobs are staged as the tree has them.
		g.step(0, 9, 1, false, want, 1, 1)
		g.stands(0, "xyz", "a")
		g.step(4, 9, 1, false, want, 1, 1)
		g.stands(0, "xyz", "a")
		g.step(5, 9, 1, false, api.OK, 1, 1)
		g.stands(1, "xyz", "a")
		g.step(6, 9, 1, false, want, 1, 1)
		g.stands(1, "xyz", "a")
	}
}

func TestNoRoom(t *testing.T) {
	for room, want := range map[int]api.Errno{0: api.OK, -1: api.ErrFull, math.MinInt: api.ErrFull} {
		w := empty(t)
		root := dir(t, file("a", "", ""))
		w.save(root)
		w.must(w.ice.Request(named(w.freeze("")), 0, 0))
		g := w.begin(root, room)
		if want != api.OK {
			g.step(0, 9, 1, false, want, 1, 1)
			g.stands(0)
			continue
		}
		g.step(0, 9, 1, true, api.OK, 2, 1)
		g.has("a", "")
		g.stands(0, "")
	}
	w := empty(t)
	root := dir(t, file("a", "1"), file("b", "2"))
	w.save(root, "2")
	w.must(w.ice.Request(named(w.freeze("1")), 0, 0))
	g := w.begin(root, 0)
	g.step(0, 9, 1, false, api.ErrFull, 1, 1)
	g.stands(0)
}

func TestRoomIsOfAllStagedBlobs(t *testing.T) {
	w := empty(t)
	root := dir(t, file("a", "12", "34", "56"))
	w.save(root)
	packs := map[api.ID]string{w.freeze("12"): "12", w.freeze("34"): "34", w.freeze("56"): "56"}
	var order []string
	for _, id := range sorted(w.ids()...) {
		if b, is := packs[id]; is {
			order = append(order, b)
		}
	}
	g := w.begin(root, 5)
	g.step(0, 1, 0, false, api.OK, 1, 1)
	g.step(0, 1, 0, false, api.OK, 1, 2)
	g.stands(2, order[0])
	g.step(1, 1, 0, false, api.OK, 1, 2)
	g.stands(3, order[:2]...)
	// The third one has no room, however few are staged at once.
	g.step(1, 1, 0, false, api.ErrFull, 1, 1)
	g.stands(3, order[:2]...)
}

// ids is the sums of all packs of the index.
func (w *world) ids() []api.ID {
	var all []api.ID
	for id := range w.Index().Packs() {
		all = append(all, id)
	}
	return all
}

func TestPacksAreGotAsTheirSumsRise(t *testing.T) {
	w := empty(t)
	root := dir(t, file("a", "1", "2", "3", "4"))
	w.save(root)
	blobs := map[api.ID]string{}
	for _, b := range []string{"1", "2", "3", "4"} {
		id := w.freeze(b)
		blobs[id] = b
		w.must(w.ice.Request(named(id), 0, 0))
	}
	var staged []string
	for _, id := range sorted(w.ids()...) {
		if b, is := blobs[id]; is {
			staged = append(staged, b)
		}
	}
	for n := range 4 {
		g := w.begin(root, 100)
		w.ice.Arm(nil, append(make([]bool, n), true))
		g.step(0, 9, 1, false, api.ErrFault, 1, n+1)
		g.stands(0, staged[:n]...)
		g = w.begin(root, n)
		g.step(0, 9, 1, false, api.ErrFull, 1, n+1)
		g.stands(0, staged[:n]...)
	}
}

func TestBlobsThatAreWrong(t *testing.T) {
	for _, c := range []struct {
		off, len int
		want     api.Errno
	}{{2, 2, api.OK}, {1, 2, api.ErrHash}, {2, 1, api.ErrHash}, {2, 0, api.ErrHash}, {1 << 20, 0, api.ErrRange}, {0, 1 << 20, api.ErrRange}} {
		w := empty(t)
		root := dir(t, file("a", "1", "33", "4"))
		w.save(root)
		b, id, _ := packed(t, "1", "4", "33")
		w.must(w.ice.Put(named(id), b, 0))
		w.put(id, true, []pack.Entry{{ID: sum("1"), Off: 0, Len: 1}, {ID: sum("33"), Off: c.off, Len: c.len}, {ID: sum("4"), Off: 1, Len: 1}})
		w.must(w.ice.Request(named(id), 0, 0))
		g := w.begin(root, 4)
		if c.want == api.OK {
			g.step(0, 9, 1, true, api.OK, 2, 1)
			g.has("a", "1334")
			continue
		}
		g.step(0, 9, 1, false, c.want, 1, 1)
		g.stands(0, "1")
		// Whether there is room is asked behind that, of each.
		g = w.begin(root, 1)
		g.step(0, 9, 1, false, c.want, 1, 1)
		g.stands(0, "1")
		g = w.begin(root, 0)
		g.step(0, 9, 1, false, api.ErrFull, 1, 1)
		g.stands(0)
	}
}

func TestAPackThatIsWrong(t *testing.T) {
	w := empty(t)
	root := dir(t, file("a", "1"))
	w.save(root)
	_, id, list := packed(t, "1")
	w.put(id, true, list)
	w.must(w.ice.Put(named(id), []byte("2"), 0))
	w.must(w.ice.Request(named(id), 0, 0))
	g := w.begin(root, 9)
	g.step(0, 9, 1, false, api.ErrHash, 1, 1)
	// It needn't be a pack's bytes, but where the blob stands.
	w.must(w.ice.Put(named(id), []byte("1"), 0))
	w.must(w.ice.Request(named(id), 0, 0))
	g.step(0, 9, 1, true, api.OK, 2, 1)
	g.has("a", "1")
}

func TestErrorsOfAsk(t *testing.T) {
	w := empty(t)
	root := dir(t, file("a", "1", "2", "3"))
	w.save(root)
	packs := sorted(w.freeze("1"), w.freeze("2"), w.freeze("3"))
	g := w.begin(root, 9)
	g.step(0, 9, -1, false, api.ErrArg, 1, 1)
	g.stands(0)
	w.must(w.ice.Drop(named(packs[1]), 0, false))
	// Those that were asked for ahead of an error count.
	g.step(0, 9, 3, false, api.ErrNone, 1, 2)
	g.stands(1)
	g.step(0, 9, 3, false, api.ErrNone, 1, 1)
	g.stands(1)
	w.ice.Arm(nil, []bool{true})
	g.step(0, 9, 3, false, api.ErrFault, 1, 1)
	g.stands(1)
}

func TestErrorsOfTheTree(t *testing.T) {
	w := empty(t)
	g := w.begin("no tree", 9)
	g.step(0, 9, 1, false, api.ErrNone, 0, 0)
	w.save("no tree")
	g.step(0, 9, 1, false, api.ErrSum, 1, 0)
	// A chunk that there is none of isn't needed, and missed at the end.
	root := dir(t, file("a", "1", "nowhere"))
	w.save(root)
	w.freeze("1")
	g = w.begin(root, 9)
	g.step(0, 9, 0, false, api.OK, 1, 1)
	g.step(0, 9, 0, false, api.ErrNone, 2, 1)
	g.stands(1, "1")
	w.save("nowhere")
	g.step(100, 9, 0, true, api.OK, 3, 0)
	g.has("a", "1nowhere")
	// A file whose chunks have other than as many bytes.
	n := file("a", "1")
	n.Size = 7
	root = dir(t, n)
	w.save(root)
	g = w.begin(root, 9)
	g.step(100, 9, 0, false, api.OK, 1, 1)
	g.step(100, 9, 0, false, api.ErrForm, 2, 1)
	g.step(100, 9, 0, false, api.ErrForm, 2, 0)
	g.stands(1, "1")
}

func TestTreesThatAreCold(t *testing.T) {
	w := empty(t)
	low := dir(t, file("a", "1"))
	root := dir(t, tree.Node{Name: "d", Dir: true, Sub: sum(low)})
	w.save(root)
	chunk, id := w.save("1"), w.freeze(low)
	g := w.begin(root, 1000)
	// They are loaded from the depot ahead of all else, so that somebody else must ask for them.
	g.step(0, 9, 1, false, api.ErrThaw, 1, 1)
	g.stands(0)
	w.must(w.ice.Request(named(id), 0, 2))
	g.step(1, 9, 1, false, api.ErrThaw, 1, 1)
	// It is loaded, then staged, and what is staged is taken for the files.
	b, e := w.hot.Get(named(chunk))
	w.must(e)
	w.must(w.hot.Drop(named(chunk)))
	g.step(2, 9, 1, false, api.ErrNone, 1+2, 2)
	g.stands(0, low)
	w.must(w.hot.Put(named(chunk), b))
	g.step(7, 9, 1, false, api.ErrThaw, 1, 1)
	w.must(w.ice.Request(named(id), 7, 0))
	g.step(7, 9, 1, true, api.OK, 1+2, 1)
	g.has("d/a", "1")
	g.stands(0, low)
}

func TestPlaces(t *testing.T) {
	w := empty(t)
	root := dir(t, file("a", "1", "2", "3"))
	w.save(root)
	// What a hot pack has, too, isn't needed from a cold one; of two cold ones the first one is.
	w.save("1")
	packs := sorted(w.freeze("1", "2"), w.freeze("2"), w.freeze("1", "dead"), w.freeze("3", "2", "1"))
	x := w.Index()
	want := map[api.ID]struct{}{}
	for _, id := range sums("2", "3") {
		p, _ := x.Find(id)
		want[p.Pack] = struct{}{}
	}
	g := w.begin(root, 100)
	g.step(0, 9, 1, false, api.OK, 1, len(want))
	for _, id := range packs {
		if _, is := want[id]; is != (w.ice.State(named(id), 0) == 1) {
			t.Error("another pack was asked for")
		}
	}
	g.step(1, 9, 1, true, api.OK, 2+1, len(want))
	g.has("a", "123")
	g.stands(len(want), "2", "3")
}

func TestABlobOfManyFilesIsNeededOnce(t *testing.T) {
	w := empty(t)
	low := dir(t, file("a", "1", "1"), file("b", "2", "1"))
	root := dir(t, tree.Node{Name: "d", Dir: true, Sub: sum(low)}, tree.Node{Name: "e", Dir: true, Sub: sum(low)}, file("f", "1"))
	w.save(low, root)
	w.freeze("1", "2")
	g := w.begin(root, 2)
	g.step(0, 9, 1, false, api.OK, 2, 1)
	g.step(1, 9, 1, true, api.OK, 2+3, 1)
	g.has("d/a", "11", "d/b", "21", "e/a", "11", "e/b", "21", "f", "1")
	g.stands(1, "1", "2")
}

func TestWhateverTheCacheIs(t *testing.T) {
	w := worldOf(t, 64, 5, 1000)
	root := dir(t, file("a", "1", "hot"))
	w.save(root, "hot")
	w.freeze("1")
	// A blob of a cold pack is needed, though it be kept near.
	w.Cache().Put([]byte("1"))
	g := w.begin(root, 100)
	g.step(0, 9, 1, false, api.OK, 1, 1)
	g.step(1, 9, 1, true, api.OK, 1, 1)
	g.has("a", "1hot")
	w.Cache().Wipe()
	g = w.begin(root, 100)
	g.step(1, 9, 1, true, api.OK, 2, 1)
	// What was cold isn't kept near.
	if got := sorted(slices.Collect(w.Cache().All())...); !slices.Equal(got, sums(root, "hot")) {
		t.Errorf("%d blobs are kept near", len(got))
	}
	w.Cache().Spoil(sum("hot"), 3)
	w.Cache().Spoil(sum(root), 3)
	g = w.begin(root, 100)
	g.step(1, 9, 1, true, api.OK, 2, 1)
	g.has("a", "1hot")
}

func TestWhatIsMovedBetweenSteps(t *testing.T) {
	w := empty(t)
	root := dir(t, file("a", "1", "2", "3"))
	w.save(root)
	one, two, three := w.save("1"), w.freeze("2"), w.freeze("3")
	g := w.begin(root, 100)
	g.step(0, 9, 0, false, api.OK, 1, 2)
	g.step(9, 0, 0, false, api.OK, 1, 0)
	w.must(w.ice.Request(named(two), 9, 0))
	g.step(9, 0, 0, false, api.OK, 1, 1)
	g.stands(2, "2")
	b, _, _ := packed(t, "3")
	w.must(w.hot.Put(named(three), b))
	b, _, _ = packed(t, "1")
	w.must(w.ice.Put(named(one), b, 9))
	x := w.Index()
	x.Move(three, false)
	x.Move(one, true)
	// What is staged is had from there, though the index has it no more.
	x.Drop(two)
	w.must(w.Commit(x))
	g.step(9, 9, 1, false, api.OK, 1, 1)
	g.stands(3, "2")
	g.step(10, 9, 1, true, api.OK, 1+2, 1)
	g.has("a", "123")
	g.stands(3, "1", "2")
}

func TestFilesAreNewMemory(t *testing.T) {
	w := empty(t)
	root := dir(t, file("a", "cold", "hot"), file("b", "cold"), file("c", "cold"))
	w.save(root, "hot")
	w.must(w.ice.Request(named(w.freeze("cold")), 0, 0))
	g := w.begin(root, 100)
	g.step(0, 9, 1, true, api.OK, 3, 1)
	for range 3 {
		g.has("a", "coldhot", "b", "cold", "c", "cold")
		files := g.Files()
		for i, f := range files {
			clear(f.Data[:cap(f.Data)])
			g.has("a", "coldhot", "b", "cold", "c", "cold")
			for _, other := range files[i+1:] {
				if string(other.Data) != "cold" {
					t.Error("files share memory")
				}
			}
		}
		clear(files[:cap(files)])
	}
}

func TestBlobs(t *testing.T) {
	w := empty(t)
	blobs := []string{"1", "2", "3", "4", "5"}
	root := dir(t, file("a", blobs...))
	w.save(root)
	w.freeze("1", "2", "3")
	w.must(w.ice.Request(named(w.freeze("4", "5")), 0, 0))
	g := w.begin(root, 100)
	none := g.Blobs()
	g.step(0, 9, 0, false, api.OK, 1, 2)
	two := g.Blobs()
	g.step(0, 9, 0, true, api.OK, 2, 1)
	want := sums(blobs...)
	for range 2 {
		if len(slices.Collect(none)) != 0 || !slices.Equal(slices.Collect(two), sums("4", "5")) {
			t.Error("what is staged later makes a difference")
		}
		for most := range 6 {
			n := 0
			for id := range g.Blobs() {
				if id != want[n] {
					t.Errorf("%x at %d", id, n)
				}
				if n++; n >= most {
					break
				}
			}
			if n != max(most, 1) {
				t.Errorf("stopped behind %d, not %d", n, most)
			}
		}
	}
	g.stands(1, blobs...)
}

func TestEachRestoreHasItsOwn(t *testing.T) {
	w := empty(t)
	one, two := dir(t, file("a", "1", "2")), dir(t, file("b", "2", "3"))
	w.save(one, two)
	w.freeze("1")
	w.freeze("2")
	w.freeze("3")
	g, h := w.begin(one, 2), w.begin(two, 1)
	g.step(0, 9, 3, false, api.OK, 1, 2)
	h.step(0, 9, 3, false, api.OK, 1, 1)
	g.stands(2)
	h.stands(1)
	g.step(3, 9, 3, true, api.OK, 2, 2)
	if done, e := h.Step(3, 9, 3); done || e != api.ErrFull {
		t.Errorf("%v %d", done, e)
	}
	g.has("a", "12")
	h.has()
	g.stands(2, "1", "2")
	if h.Asked() != 1 || h.Staged() != 1 {
		t.Errorf("%d %d", h.Asked(), h.Staged())
	}
}

func TestNew(t *testing.T) {
	w := empty(t)
	for _, room := range []int{math.MinInt, -1, 0, 1, math.MaxInt} {
		w.asks(0, 0, func() {
			r := restore.New(w.Depot, api.ID{}, room)
			if r.Asked() != 0 || r.Staged() != 0 || len(r.Files()) != 0 || len(slices.Collect(r.Blobs())) != 0 {
				t.Error("something is there already")
			}
		})
	}
}

func TestTimesAtTheirBounds(t *testing.T) {
	w := empty(t)
	root := dir(t, file("a", "1"))
	w.save(root)
	w.freeze("1")
	g := w.begin(root, 9)
	g.step(math.MinInt64, 9, 3, false, api.OK, 1, 1)
	g.step(-1, 9, 3, false, api.OK, 1, 0)
	g.step(2, 9, 3, false, api.OK, 1, 0)
	// At the end of all times nothing lives.
	g.step(math.MaxInt64, 9, 3, false, api.OK, 1, 1)
	g.step(math.MaxInt64, 9, 3, false, api.OK, 1, 1)
	g.stands(3)
	// What was asked for then is pending ahead of it.
	g.step(api.MaxTime-1, 9, 3, false, api.OK, 1, 0)
}
