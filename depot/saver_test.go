package depot_test

import (
	"math"
	"strconv"
	"strings"
	"testing"

	"coldstore/api"
	"coldstore/guard"
	"coldstore/index"
	"coldstore/object"
)

func TestABlobThatIsSavedTwice(t *testing.T) {
	d, hot := fresh(t)
	s := d.Saver(1000)
	added(t, s, "blob", api.OK)
	added(t, s, "blob", api.OK)
	done(t, s, api.OK)
	added(t, s, "blob", api.OK)
	done(t, s, api.OK)
	other := d.Saver(1000)
	added(t, other, "blob", api.OK)
	done(t, other, api.OK)
	hasThings(t, hot, [][]string{{"blob"}}, [][]string{{"blob"}})
}

func TestWhatTheIndexHasIsntSaved(t *testing.T) {
	d, hot := fresh(t)
	b, list := packed("one", "two")
	x := d.Index()
	x.Put(sum(b), true, list)
	if e := d.Commit(x); e != api.OK {
		t.Fatal(e)
	}
	s := d.Saver(1)
	ahead := hot.Ops()
	added(t, s, "two", api.OK)
	done(t, s, api.OK)
	if hot.Ops() != ahead {
		t.Error("what a cold pack has is saved anew")
	}
	// It isn't any more: the index that counts is the depot's at the time.
	if e := d.Commit(new(index.Index)); e != api.OK {
		t.Fatal(e)
	}
	added(t, s, "two", api.OK)
	done(t, s, api.OK)
	hasThings(t, hot, [][]string{{"two"}}, [][]string{{"two"}})
}

func TestPacksOfAtLeastTheTarget(t *testing.T) {
	for _, c := range []struct {
		target int
		packs  [][]string
	}{
		{math.MinInt64, [][]string{{"abcd"}, {""}, {"ef"}, {"ghijk"}}},
		{0, [][]string{{"abcd"}, {""}, {"ef"}, {"ghijk"}}},
		{1, [][]string{{"abcd"}, {""}, {"ef"}, {"ghijk"}}},
		{13, [][]string{{"abcd"}, {""}, {"ef"}, {"ghijk"}}},
		{49, [][]string{{"abcd"}, {""}, {"ef"}, {"ghijk"}}},
		// A pack of one blob has 49 bytes beside it.
		{50, [][]string{{"abcd"}, {"", "ef"}, {"ghijk"}}},
		{53, [][]string{{"abcd"}, {"", "ef"}, {"ghijk"}}},
		{54, [][]string{{"abcd", ""}, {"ef", "ghijk"}}},
		{89, [][]string{{"abcd", ""}, {"ef", "ghijk"}}},
		{90, [][]string{{"abcd", "", "ef"}, {"ghijk"}}},
		{127, [][]string{{"abcd", "", "ef"}, {"ghijk"}}},
		{128, [][]string{{"abcd", "", "ef", "ghijk"}}},
		{math.MaxInt64, [][]string{{"abcd", "", "ef", "ghijk"}}},
	} {
		d, hot := fresh(t)
		s := d.Saver(c.target)
		for _, b := range []string{"abcd", "", "ef", "ghijk"} {
			added(t, s, b, api.OK)
		}
		if hot.Len() > len(c.packs) || d.Index().Len() != 0 {
			t.Errorf("%d: %d things, %d packs", c.target, hot.Len(), d.Index().Len())
		}
		done(t, s, api.OK)
		ahead := hot.Ops()
		done(t, s, api.OK)
		if hot.Ops() != ahead {
			t.Errorf("%d: when nothing is left, something is done", c.target)
		}
		hasThings(t, hot, c.packs, c.packs)
	}
}

func TestDoneOfNothing(t *testing.T) {
	d, hot := fresh(t)
	for _, target := range []int{1, 13, 1000} {
		s := d.Saver(target)
		done(t, s, api.OK)
		done(t, s, api.OK)
	}
	if hot.Ops() != 1 || hot.Len() != 0 {
		t.Errorf("%d operations", hot.Ops())
	}
}

func TestWhatIsntCommittedMakesNoDifference(t *testing.T) {
	hot, away := stores(t)
	d := opened(t, hot, away, 0)
	s := d.Saver(1)
	added(t, s, "one", api.OK)
	if again := opened(t, hot, away, 0); again.Index().Len() != 0 {
		t.Error("a pack that was put makes a difference")
	} else {
		loads(t, again, "one", 0, api.ErrNone)
	}
	done(t, s, api.OK)
	again := opened(t, hot, away, 0)
	loads(t, again, "one", 0, api.OK)
	loads(t, d, "one", 0, api.OK)
	added(t, s, "two", api.OK)
	done(t, s, api.OK)
	loads(t, again, "two", 0, api.ErrNone)
	loads(t, opened(t, hot, away, 0), "two", 0, api.OK)
}

func TestABlobThatIsTooLong(t *testing.T) {
	d, hot := fresh(t)
	s := d.Saver(1000)
	long := strings.Repeat("x", api.MaxBlob+1)
	added(t, s, "one", api.OK)
	for range 2 {
		added(t, s, long, api.ErrLong)
	}
	added(t, s, "two", api.OK)
	added(t, s, long[1:], api.OK)
	done(t, s, api.OK)
	hasThings(t, hot, [][]string{{"one", "two", long[1:]}}, [][]string{{"one", "two", long[1:]}})
}

// texts is texts of a length, each of another sum.
func texts(n, length int) []string {
	var list []string
	for i := range n {
		head := strconv.Itoa(i)
		list = append(list, head+strings.Repeat("-", length-len(head)))
	}
	return list
}

func TestAPackThatIsFull(t *testing.T) {
	d, hot := fresh(t)
	s := d.Saver(math.MaxInt64)
	// 16 blobs of 65000 bytes have their room in a pack, and 8000 more bytes, too, but not a 17th one.
	list := texts(17, 65000)
	for _, b := range list[:16] {
		added(t, s, b, api.OK)
	}
	if hot.Len() != 0 {
		t.Error("a pack with room is put")
	}
	hot.Arm(nil, []bool{true})
	ahead := hot.Ops()
	added(t, s, list[16], api.ErrFault)
	small := strings.Repeat("s", 7000)
	added(t, s, small, api.OK)
	if hot.Ops() != ahead+1 {
		t.Errorf("%d operations", hot.Ops()-ahead)
	}
	// A blob that is too long is refused ahead of being put into a full pack.
	added(t, s, strings.Repeat("x", api.MaxBlob+1), api.ErrLong)
	added(t, s, list[16], api.OK)
	if hot.Ops() != ahead+2 || hot.Len() != 1 {
		t.Errorf("%d operations", hot.Ops()-ahead)
	}
	done(t, s, api.OK)
	packs := [][]string{append(list[:16:16], small), list[16:]}
	hasThings(t, hot, packs, packs)
}

func TestAPackOfAsManyBlobsAsMayBe(t *testing.T) {
	d, hot := fresh(t)
	s := d.Saver(math.MaxInt64)
	list := texts(api.MaxBlobs+1, 4)
	for _, b := range list[:api.MaxBlobs] {
		added(t, s, b, api.OK)
	}
	added(t, s, list[api.MaxBlobs], api.ErrMany)
	added(t, s, list[api.MaxBlobs], api.ErrMany)
	added(t, s, list[0], api.OK)
	done(t, s, api.OK)
	added(t, s, list[api.MaxBlobs], api.OK)
	done(t, s, api.OK)
	packs := [][]string{list[:api.MaxBlobs], list[api.MaxBlobs:]}
	hasThings(t, hot, packs, packs)
}

func TestAPutThatFails(t *testing.T) {
	d, hot := fresh(t)
	s := d.Saver(90)
	added(t, s, "one", api.OK)
	hot.Arm(nil, []bool{true, true})
	// It was added, even if the pack that it filled can't be put.
	added(t, s, "two", api.ErrFault)
	added(t, s, "two", api.OK)
	// The pack is put first: as long as it can't be, nothing more is added.
	ahead := hot.Ops()
	added(t, s, "three", api.ErrFault)
	added(t, s, "three", api.OK)
	if hot.Ops() != ahead+2 {
		t.Errorf("%d operations", hot.Ops()-ahead)
	}
	hasThings(t, hot, [][]string{{"one", "two"}}, nil)
	done(t, s, api.OK)
	packs := [][]string{{"one", "two"}, {"three"}}
	hasThings(t, hot, packs, packs)
}

func TestAFaultBehindABlobThatFailed(t *testing.T) {
	d, hot := fresh(t)
	s := d.Saver(1)
	hot.Arm(nil, []bool{true})
	added(t, s, "one", api.ErrFault)
	// Two operations: the pack of the first one, and that of the second one; the second one's error leaves it added.
	ahead := hot.Ops()
	hot.Arm(nil, []bool{false, true})
	added(t, s, "two", api.ErrFault)
	added(t, s, "one", api.OK)
	added(t, s, "two", api.OK)
	if hot.Ops() != ahead+2 {
		t.Errorf("%d operations", hot.Ops()-ahead)
	}
	done(t, s, api.OK)
	packs := [][]string{{"one"}, {"two"}}
	hasThings(t, hot, packs, packs)
}

func TestABlobThatIsTooLongBehindAPutThatFailed(t *testing.T) {
	d, hot := fresh(t)
	s := d.Saver(1)
	long := strings.Repeat("x", api.MaxBlob+1)
	hot.Arm(nil, []bool{true, true})
	added(t, s, "one", api.ErrFault)
	added(t, s, long, api.ErrFault)
	added(t, s, long, api.ErrLong)
	hasThings(t, hot, [][]string{{"one"}}, nil)
}

func TestDoneGoesOnWhereItWas(t *testing.T) {
	d, hot := fresh(t)
	s := d.Saver(90)
	for _, b := range []string{"one", "two", "three"} {
		added(t, s, b, api.OK)
	}
	packs := [][]string{{"one", "two"}, {"three"}}
	for i, c := range []struct {
		faults []bool
		e      api.Errno
		ops    int
		packs  [][]string
		index  [][]string
	}{
		{[]bool{true}, api.ErrFault, 1, packs[:1], nil},
		{[]bool{true}, api.ErrFault, 1, packs[:1], nil},
		{[]bool{false, true}, api.ErrFault, 2, packs, nil},
		{[]bool{true}, api.ErrFault, 1, packs, nil},
		{nil, api.OK, 1, packs, packs},
		{[]bool{true}, api.OK, 0, packs, packs},
	} {
		ahead := hot.Ops()
		hot.Arm(nil, c.faults)
		if e := s.Done(); e != c.e || hot.Ops() != ahead+c.ops {
			t.Errorf("%d: %d, %d operations", i, e, hot.Ops()-ahead)
		}
		hot.Arm(nil, nil)
		hasThings(t, hot, c.packs, c.index)
		if d.Index().Len() != len(c.index) {
			t.Errorf("%d: %d packs", i, d.Index().Len())
		}
	}
}

func TestASaverGoesOnBehindDone(t *testing.T) {
	d, hot := fresh(t)
	s := d.Saver(1000)
	added(t, s, "one", api.OK)
	done(t, s, api.OK)
	added(t, s, "two", api.OK)
	added(t, s, "one", api.OK)
	done(t, s, api.OK)
	packs := [][]string{{"one"}, {"two"}}
	hasThings(t, hot, packs, packs)
	loads(t, d, "one", 0, api.OK)
	loads(t, d, "two", 0, api.OK)
	// What was added to it ahead isn't added again, whatever became of the index.
	if e := d.Commit(new(index.Index)); e != api.OK {
		t.Fatal(e)
	}
	ahead := hot.Ops()
	added(t, s, "one", api.OK)
	done(t, s, api.OK)
	if hot.Ops() != ahead {
		t.Errorf("%d operations", hot.Ops()-ahead)
	}
}

func TestAPackThatTheIndexHasAlready(t *testing.T) {
	d, hot := fresh(t)
	s, other := d.Saver(1000), d.Saver(1000)
	added(t, s, "one", api.OK)
	added(t, other, "one", api.OK)
	done(t, s, api.OK)
	ahead := hot.Ops()
	done(t, other, api.OK)
	if hot.Ops() != ahead+2 {
		t.Errorf("%d operations", hot.Ops()-ahead)
	}
	hasThings(t, hot, [][]string{{"one"}}, [][]string{{"one"}})
	// A cold one stays cold.
	third := d.Saver(1000)
	x := d.Index()
	b, _ := packed("one")
	if e := d.Commit(new(index.Index)); e != api.OK {
		t.Fatal(e)
	}
	added(t, third, "one", api.OK)
	x.Move(sum(b), true)
	if e := d.Commit(x); e != api.OK {
		t.Fatal(e)
	}
	done(t, third, api.OK)
	if _, cold, there := d.Index().Pack(sum(b)); !cold || !there {
		t.Error("a cold pack is a hot one now")
	}
}

func TestSeveralSavers(t *testing.T) {
	d, hot := fresh(t)
	s, other := d.Saver(1000), d.Saver(1)
	added(t, s, "one", api.OK)
	added(t, other, "two", api.OK)
	added(t, other, "one", api.OK)
	done(t, other, api.OK)
	added(t, s, "two", api.OK)
	added(t, s, "three", api.OK)
	done(t, s, api.OK)
	packs := [][]string{{"one", "three"}, {"two"}, {"one"}}
	hasThings(t, hot, packs, packs)
}

func TestAnIndexOfAsManyPacksAsMayBe(t *testing.T) {
	d, hot := fresh(t)
	x := d.Index()
	for i := range api.MaxObjects - 1 {
		x.Put(api.ID{byte(i), byte(i >> 8), 1}, false, nil)
	}
	if e := d.Commit(x); e != api.OK {
		t.Fatal(e)
	}
	s := d.Saver(1)
	added(t, s, "one", api.OK)
	added(t, s, "two", api.OK)
	for range 2 {
		ahead := hot.Ops()
		done(t, s, api.ErrMany)
		if hot.Ops() != ahead || d.Index().Len() != api.MaxObjects-1 {
			t.Errorf("%d operations, %d packs", hot.Ops()-ahead, d.Index().Len())
		}
	}
	if e := d.Commit(new(index.Index)); e != api.OK {
		t.Fatal(e)
	}
	done(t, s, api.OK)
	packs := [][]string{{"one"}, {"two"}}
	hasThings(t, hot, packs, packs)
}

func TestAStoreWithoutRoom(t *testing.T) {
	hot, _ := object.New(200)
	_, away := stores(t)
	d := opened(t, hot, away, 0)
	s := d.Saver(1)
	added(t, s, strings.Repeat("x", 60), api.OK)
	// The pack has 109 bytes, the index would have 86.
	added(t, s, strings.Repeat("y", 60), api.ErrQuota)
	done(t, s, api.ErrQuota)
	loads(t, d, strings.Repeat("x", 60), 0, api.ErrNone)
	if again := opened(t, hot, away, 0); again.Index().Len() != 0 {
		t.Error("what wasn't committed makes a difference")
	}
}

func TestWhatIsAddedIsntKeptNorTurned(t *testing.T) {
	d, hot := fresh(t)
	s := d.Saver(1000)
	b := []byte("one two")
	if _, e := s.Add(b[:3]); e != api.OK || string(b) != "one two" {
		t.Errorf("%q %d", b, e)
	}
	clear(b)
	done(t, s, api.OK)
	hasThings(t, hot, [][]string{{"one"}}, [][]string{{"one"}})
}

func TestThePowerGoes(t *testing.T) {
	for n := range 6 {
		hot, away := stores(t)
		d := opened(t, hot, away, 0)
		f := guard.NewFuse(n)
		hot.Arm(f, nil)
		blew := f.Catch(func() {
			s := d.Saver(90)
			for _, b := range []string{"one", "two", "three", "four", "five"} {
				s.Add([]byte(b))
			}
			s.Done()
		})
		if blew != (n < 4) {
			t.Errorf("fuse for %d: %v", n, blew)
		}
		hot.Arm(nil, nil)
		again := opened(t, hot, away, 0)
		want := api.ErrNone
		if n >= 4 {
			want = api.OK
		}
		for _, b := range []string{"one", "two", "three", "four", "five"} {
			loads(t, again, b, 0, want)
		}
		if packs := min(n, 3); hot.Len() != packs+again.Index().Len()/3 {
			t.Errorf("fuse for %d: %v", n, things(hot))
		}
	}
}

func TestASaverGoesOnBehindThePower(t *testing.T) {
	d, hot := fresh(t)
	s := d.Saver(1)
	f := guard.NewFuse(0)
	hot.Arm(f, nil)
	if !f.Catch(func() { s.Add([]byte("one")) }) || !f.Catch(func() { s.Done() }) {
		t.Error("the fuse doesn't go through")
	}
	hot.Arm(nil, nil)
	done(t, s, api.OK)
	hasThings(t, hot, [][]string{{"one"}}, [][]string{{"one"}})
}
