package verify_test

import (
	"slices"
	"testing"

	"coldstore/api"
	"coldstore/code"
	"coldstore/guard"
	"coldstore/pack"
	"coldstore/seal"
	"coldstore/sha"
	"coldstore/tree"
	"coldstore/verify"
)

func TestStoresWithoutThings(t *testing.T) {
	w := empty(t)
	w.check(verify.Report{}, 1, 0)
}

func TestNothingIsWrong(t *testing.T) {
	w := empty(t)
	root := dir(t, "1", "2", "3", "2")
	w.save(root, "")
	w.save("1", "dead")
	w.save("3")
	w.saveCold("2")
	w.saveCold("dead, and cold")
	w.keep(1, root)
	// The snapshots, the one, its tree; then of each hot pack two operations, of each cold one one.
	w.check(verify.Report{}, 3+2*3, 2)
	// What the index doesn't name isn't asked for.
	w.heat([]byte("junk"))
	w.freeze([]byte("junk"))
	w.must(w.hot.Put("pack/", nil))
	w.check(verify.Report{}, 3+2*3, 2)
}

func TestMissing(t *testing.T) {
	w := empty(t)
	root, other := dir(t, "1", "2", "3", "4", "1"), dir(t, "5", "2", "6")
	w.save(root, "3")
	w.save(other, "dead")
	w.saveCold("5")
	w.keep(1, root)
	w.keep(2, other)
	// They rise, and each comes once, of whichever snapshots it is.
	want := sums("1", "2", "4", "6")
	w.check(verify.Report{Missing: want}, 5+2*2, 1)
	// It makes no difference that a store has a pack of it.
	b, _, _ := packed(t, "1")
	w.heat(b)
	w.check(verify.Report{Missing: want}, 5+2*2, 1)
	w.save("4")
	w.save("2", "6")
	w.check(verify.Report{Missing: sums("1")}, 5+2*4, 1)
	w.save("1")
	w.check(verify.Report{}, 5+2*5, 1)
	// A blob has a place, though its pack is lost.
	_, id, list := packed(t, "7")
	w.put(id, false, list)
	last := dir(t, "7")
	w.save(last)
	w.keep(3, last)
	w.check(verify.Report{Lost: []api.ID{id}}, 7+2*6+1, 1)
}

func TestATreeThatIsMissing(t *testing.T) {
	w := worldOf(t, 1<<26, 1000)
	low := dir(t, "1")
	b, e := tree.Encode([]tree.Node{{Name: "d", Dir: true, Sub: sum(low)}})
	w.must(e)
	w.save(string(b), "1")
	w.keep(1, string(b))
	w.fails(0, api.ErrNone, 3, 0)
	// One that is kept near is loaded from there, and has no place none the less.
	w.Cache().Put([]byte(low))
	w.check(verify.Report{Missing: sums(low)}, 2+2, 0)
}

func TestLost(t *testing.T) {
	w := empty(t)
	var gone []api.ID
	w.save("here")
	w.saveCold("here, and cold")
	for _, b := range []string{"1", "2", "3", "4"} {
		hot, ice := w.save(b), w.saveCold(b+b)
		w.must(w.hot.Drop(named(hot)))
		w.must(w.ice.Drop(named(ice), 0, true))
		gone = append(gone, hot, ice)
	}
	w.check(verify.Report{Lost: sorted(gone...)}, 1+2+4, 1+4)
}

func TestLostInTheOtherStore(t *testing.T) {
	w := empty(t)
	hot, ice := w.save("1"), w.saveCold("2")
	w.check(verify.Report{}, 1+2, 1)
	w.move(true, hot)
	w.move(false, ice)
	w.check(verify.Report{Lost: sorted(hot, ice)}, 1+1, 1)
	// In both stores it is in that one, too.
	b, _, _ := packed(t, "1")
	w.freeze(b)
	w.check(verify.Report{Lost: []api.ID{ice}}, 1+1, 1)
	b, _, _ = packed(t, "2")
	w.heat(b)
	w.check(verify.Report{}, 1+2, 1)
}

func TestWhateverIsListed(t *testing.T) {
	w := empty(t)
	hot, ice := w.save("1"), w.saveCold("2")
	w.must(w.hot.Drop(named(hot)))
	w.must(w.ice.Drop(named(ice), 0, true))
	w.must(w.ice.Put(named(ice)+"x", nil, 0))
	w.check(verify.Report{Lost: []api.ID{hot}}, 1+1, 1)
	// A hot one of a longer name is listed, and can't be got.
	w.must(w.hot.Put(named(hot)+"x", nil))
	_, e := verify.Check(w.Depot, 0)
	if e != api.ErrNone {
		t.Error(e)
	}
	w.must(w.hot.Drop(named(hot) + "x"))
	// A name that the digits are only a part of is none of it.
	w.must(w.hot.Put("x"+named(hot), nil))
	w.must(w.hot.Put(named(hot)[:68], nil))
	w.check(verify.Report{Lost: []api.ID{hot}}, 1+1, 1)
}

func TestBytesOfAnotherSum(t *testing.T) {
	b, id, list := packed(t, "1", "22", "")
	flipped := slices.Clone(b)
	flipped[0] ^= 1
	other, _, _ := packed(t, "22", "1", "")
	short, _, _ := packed(t)
	for _, bytes := range [][]byte{flipped, other, short, b[1:], b[:len(b)-1], append(slices.Clone(b), 0), []byte("junk"), nil} {
		w := empty(t)
		w.put(id, false, list)
		w.must(w.hot.Put(named(id), bytes))
		w.check(verify.Report{Bad: []api.ID{id}}, 1+2, 0)
	}
	// A pack that is whole, by the name of another sum.
	w := empty(t)
	w.put(api.ID{1}, false, list)
	w.must(w.hot.Put(named(api.ID{1}), b))
	w.check(verify.Report{Bad: []api.ID{{1}}}, 1+2, 0)
	// Each bit of a pack.
	w = empty(t)
	w.put(id, false, list)
	for i := range 8 * len(b) {
		flipped := slices.Clone(b)
		flipped[i/8] ^= 1 << (i % 8)
		w.must(w.hot.Put(named(id), flipped))
		w.check(verify.Report{Bad: []api.ID{id}}, 1+2, 0)
	}
	w.heat(b)
	w.check(verify.Report{}, 1+2, 0)
}

func TestBytesOfNoPack(t *testing.T) {
	for _, bytes := range []string{"", "junk", "a longer one that is no pack's bytes\x04\x00\x00\x00"} {
		w := empty(t)
		id := w.heat([]byte(bytes))
		w.put(id, false, nil)
		w.check(verify.Report{Bad: []api.ID{id}}, 1+2, 0)
	}
	w := empty(t)
	w.save()
	w.check(verify.Report{}, 1+2, 0)
}

func TestOtherBlobsThanTheIndexTells(t *testing.T) {
	b, id, list := packed(t, "1", "22", "")
	changed := func(i int, change func(*pack.Entry)) []pack.Entry {
		c := slices.Clone(list)
		change(&c[i])
		return c
	}
	for n, told := range [][]pack.Entry{
		nil,
		list[:2],
		list[1:],
		append(slices.Clone(list), pack.Entry{ID: sum("4"), Off: 0, Len: 1}),
		append(slices.Clone(list), list[0]),
		{list[1], list[0], list[2]},
		changed(0, func(e *pack.Entry) { e.ID[31]++ }),
		changed(1, func(e *pack.Entry) { e.Off-- }),
		changed(1, func(e *pack.Entry) { e.Len-- }),
		changed(2, func(e *pack.Entry) { e.Off = 0 }),
		changed(2, func(e *pack.Entry) { e.ID = sum("1") }),
	} {
		w := empty(t)
		w.heat(b)
		w.put(id, false, told)
		w.asks(1+2, 0, func() {
			got, e := verify.Check(w.Depot, 0)
			if e != api.OK || !equal(got, verify.Report{Bad: []api.ID{id}}) {
				t.Errorf("%d: %v, %d", n, got, e)
			}
		})
	}
	// A pack of none, of which the index tells some.
	b, id, _ = packed(t)
	w := empty(t)
	w.heat(b)
	w.put(id, false, list)
	w.check(verify.Report{Bad: []api.ID{id}}, 1+2, 0)
}

// forged is a pack's bytes that tell these sums of its blobs, whatever theirs are; and its blobs.
func forged(ids []api.ID, blobs ...string) ([]byte, []pack.Entry) {
	var all, head code.Writer
	var list []pack.Entry
	head.Num(uint64(len(blobs)), 4)
	off := 0
	for i, b := range blobs {
		all.Raw([]byte(b))
		head.Raw(ids[i][:])
		head.Num(uint64(len(b)), 4)
		list = append(list, pack.Entry{ID: ids[i], Off: off, Len: len(b)})
		off += len(b)
	}
	sealed := seal.Seal(80, head.Done())
	all.Raw(sealed)
	all.Num(uint64(len(sealed)), 4)
	return all.Done(), list
}

func TestBlobsOfOtherSums(t *testing.T) {
	ids := []api.ID{sum("1"), sum("2"), sum("")}
	for n, blobs := range [][]string{{"x", "2", ""}, {"1", "x", ""}, {"1", "2", "x"}, {"1", "2", ""}, {"2", "1", ""}} {
		b, list := forged(ids, blobs...)
		if got, e := pack.Read(b); e != api.OK || !slices.Equal(got, list) {
			t.Fatal(n, e)
		}
		w := empty(t)
		id := w.heat(b)
		w.put(id, false, list)
		var want verify.Report
		if n != 3 {
			want.Bad = []api.ID{id}
		}
		w.check(want, 1+2, 0)
	}
}

func TestWhatIsColdIsNeverBad(t *testing.T) {
	w := empty(t)
	w.put(w.freeze([]byte("junk")), true, nil)
	_, id, list := packed(t, "1")
	w.put(id, true, list)
	w.must(w.ice.Put(named(id), []byte("other bytes"), 0))
	b, _ := forged([]api.ID{sum("1")}, "2")
	w.put(w.freeze(b), true, nil)
	w.check(verify.Report{}, 1, 3)
	// Nor is what the hot store has of it.
	w.must(w.hot.Put(named(id), []byte("junk")))
	w.check(verify.Report{}, 1, 3)
}

func TestAllOfItRises(t *testing.T) {
	w := empty(t)
	root := dir(t, "missing 1", "missing 2", "missing 3", "hot 1", "cold 1")
	w.save(root)
	w.keep(1, root)
	var lost, bad []api.ID
	for _, n := range []string{"1", "2", "3", "4", "5"} {
		hot, ice := w.save("hot "+n), w.saveCold("cold "+n)
		w.must(w.hot.Drop(named(hot)))
		w.must(w.ice.Drop(named(ice), 0, true))
		lost = append(lost, hot, ice)
		id := w.save("bad " + n)
		w.must(w.hot.Put(named(id), []byte(n)))
		bad = append(bad, id)
	}
	want := verify.Report{Missing: sums("missing 1", "missing 2", "missing 3"), Lost: sorted(lost...), Bad: sorted(bad...)}
	w.check(want, 3+2+5+2*5, 5)
	got, _ := verify.Check(w.Depot, 0)
	if len(pairs(got, 99)) != 3+10+5 || verify.Good(got) {
		t.Error("something isn't told")
	}
	// What is told is the caller's own.
	for _, list := range [][]api.ID{got.Missing, got.Lost, got.Bad} {
		clear(list[:cap(list)])
	}
	w.check(want, 3+2+5+2*5, 5)
}

// several is a world of some packs, and the operations of a Check of it: each letter tells the store.
func several(t *testing.T) (*world, string) {
	t.Helper()
	w := empty(t)
	root := dir(t, "1", "2", "nowhere")
	w.save(root)
	w.save("1")
	w.must(w.hot.Drop(named(w.save("lost"))))
	w.must(w.hot.Put(named(w.save("bad")), nil))
	w.saveCold("2")
	w.saveCold("3")
	w.must(w.ice.Drop(named(w.saveCold("gone")), 0, true))
	w.keep(1, root)
	operations := "hhh"
	there, _ := w.things()
	for id, cold := range w.Index().Packs() {
		_, is := there[named(id)]
		switch {
		case cold:
			operations += "c"
		case is:
			operations += "hh"
		default:
			operations += "h"
		}
	}
	return w, operations
}

func TestACheckThatIsCutShort(t *testing.T) {
	w, operations := several(t)
	whole, e := verify.Check(w.Depot, 0)
	if e != api.OK || len(whole.Missing) != 1 || len(whole.Lost) != 2 || len(whole.Bad) != 1 || len(operations) != 3+3*2+1+3 {
		t.Fatal(whole, e, operations)
	}
	for n := range len(operations) + 1 {
		for want, a := range map[api.Errno]arms{api.ErrFault: failing(operations, n), api.ErrCrash: {power: n}} {
			w, _ := several(t)
			hot, ice := w.things()
			at := w.hot.Ops() + w.ice.Ops()
			var got verify.Report
			e := api.ErrCrash
			blew := w.do(a, func() { got, e = verify.Check(w.Depot, 0) })
			if n == len(operations) {
				if blew || e != api.OK || !equal(got, whole) {
					t.Errorf("behind all: %v %d", got, e)
				}
				continue
			}
			// One more: that of the fault, or of opening the depot anew.
			if blew != (want == api.ErrCrash) || e != want || !equal(got, verify.Report{}) || w.hot.Ops()+w.ice.Ops() != at+n+1 {
				t.Errorf("behind %d: %v %v %d", n, blew, got, e)
			}
			// It turns nothing.
			if h, i := w.things(); len(h) != len(hot) || len(i) != len(ice) {
				t.Errorf("behind %d: the stores have other things", n)
			}
			if got, e := verify.Check(w.Depot, 0); e != api.OK || !equal(got, whole) {
				t.Errorf("behind %d, again: %v %d", n, got, e)
			}
		}
	}
}

func TestThePowerGoesThrough(t *testing.T) {
	w, operations := several(t)
	for n := range len(operations) {
		fuse := guard.NewFuse(n)
		w.hot.Arm(fuse, nil)
		w.ice.Arm(fuse, nil)
		through := true
		blew := fuse.Catch(func() {
			guard.Run(func() { verify.Check(w.Depot, 0) })
			through = false
		})
		if !blew || !through {
			t.Errorf("behind %d: %v %v", n, blew, through)
		}
	}
}

func TestTreesThatAreCold(t *testing.T) {
	w := empty(t)
	root := dir(t, "1")
	ice := w.saveCold(root)
	w.save("1")
	w.keep(1, root)
	// They are loaded at the time that is told.
	w.fails(0, api.ErrThaw, 2, 1)
	w.must(w.ice.Request(named(ice), 0, 5))
	w.fails(4, api.ErrThaw, 2, 1)
	w.asks(2+2, 1+1, func() {
		if got, e := verify.Check(w.Depot, 5); e != api.OK || !verify.Good(got) {
			t.Error(got, e)
		}
	})
	w.fails(5000, api.ErrThaw, 2, 1)
	w.fails(-1, api.ErrThaw, 2, 1)
}

func TestErrorsOfWhatIsLive(t *testing.T) {
	w := empty(t)
	w.save("no tree")
	w.keep(1, "no tree")
	w.fails(0, api.ErrSum, 3, 0)
	w = empty(t)
	b, e := tree.Encode(nil)
	w.must(e)
	w.keep(1, string(b))
	w.fails(0, api.ErrNone, 2, 0)
	id := w.save(string(b))
	w.check(verify.Report{}, 3+2, 0)
	// Its pack is lost, so that the tree can't be loaded.
	w.must(w.hot.Drop(named(id)))
	w.fails(0, api.ErrNone, 3, 0)
	w.must(w.hot.Put(named(id), make([]byte, 100)))
	w.fails(0, api.ErrHash, 3, 0)
	// What is no snapshot's is left out.
	w = empty(t)
	w.must(w.hot.Put("snap/"+sha.Text(sum("x")), []byte("x")))
	w.check(verify.Report{}, 2, 0)
}
