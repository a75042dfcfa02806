package verify_test

import (
	"slices"
	"strconv"
	"strings"
	"testing"

	"coldstore/api"
	"coldstore/guard"
	"coldstore/index"
	"coldstore/pack"
	"coldstore/verify"
)

// mends tells what Mend must answer, how many operations it must do, and which index holds behind it.
func (w *world) mends(n int, want *index.Index, hot, ice int) {
	w.t.Helper()
	w.asks(hot, ice, func() {
		if got, e := verify.Mend(w.Depot); got != n || e != api.OK {
			w.t.Errorf("%d %d, not %d", got, e, n)
		}
	})
	w.holds(want)
}

// holds tells which index holds, now and when the depot is opened anew.
func (w *world) holds(want *index.Index) {
	w.t.Helper()
	if !same(w.Index(), want) {
		w.t.Error("the depot has another index")
	}
	w.reopen()
	if !same(w.Index(), want) {
		w.t.Error("the hot store has another index")
	}
}

func TestAnIndexOfNothing(t *testing.T) {
	w := empty(t)
	w.rebuilds(indexOf(t), 1, 1)
	w.mends(0, indexOf(t), 2, 1)
	// What the stores haven't got isn't in it.
	_, id, list := packed(t, "1")
	w.put(id, false, list)
	_, id, list = packed(t, "2")
	w.put(id, true, list)
	w.rebuilds(indexOf(t), 1, 1)
	w.mends(0, indexOf(t), 2, 1)
}

func TestHotPacksTellThemselves(t *testing.T) {
	w := empty(t)
	for _, blobs := range [][]string{{"1", "22", ""}, {}, {"22"}} {
		b, _, _ := packed(t, blobs...)
		w.heat(b)
	}
	want := indexOf(t, hotOf(t, "1", "22", ""), hotOf(t), hotOf(t, "22"))
	w.rebuilds(want, 1+3, 1)
	// Whatever the depot's index tells of them.
	_, id, list := packed(t, "1", "22", "")
	w.put(id, true, list[1:])
	_, id, _ = packed(t, "22")
	w.put(id, false, nil)
	w.rebuilds(want, 1+3, 1)
	w.mends(3, want, 1+3+1, 1)
	w.rebuilds(want, 1+3, 1)
}

func TestWhatIsNoHotPack(t *testing.T) {
	b, id, list := packed(t, "1", "22")
	digits := strings.TrimPrefix(named(id), "pack/")
	for _, name := range []string{"pack/", "pack/x", "pack/" + digits[1:], "pack/" + digits + "0", "pack/" + strings.ToUpper(digits), "pack/pack/" + digits, "pack//" + digits, "pack/" + digits[:63] + "g", "pack/" + strings.Repeat("0", 64)} {
		w := empty(t)
		w.must(w.hot.Put(name, b))
		// It is got, whatever its name is.
		w.rebuilds(indexOf(t), 1+1, 1)
		w.put(id, false, list)
		w.mends(0, indexOf(t), 1+1+1, 1)
	}
	for _, name := range []string{"pack", "Pack/" + digits, "snap/" + digits, "move/" + digits, digits, "xpack/" + digits} {
		w := empty(t)
		w.must(w.hot.Put(name, b))
		w.rebuilds(indexOf(t), 1, 1)
	}
	for _, bytes := range [][]byte{nil, b[1:], b[:len(b)-1], append(slices.Clone(b), 0), []byte("junk")} {
		w := empty(t)
		w.must(w.hot.Put(named(id), bytes))
		w.put(id, false, list)
		w.rebuilds(indexOf(t), 1+1, 1)
		// Neither are bytes that are named by their sum, but no pack's.
		w.heat(bytes)
		w.rebuilds(indexOf(t), 1+2, 1)
		w.heat(b)
		w.rebuilds(indexOf(t, hotOf(t, "1", "22")), 1+2, 1)
	}
	for i := range 8 * len(b) {
		flipped := slices.Clone(b)
		flipped[i/8] ^= 1 << (i % 8)
		w := empty(t)
		w.must(w.hot.Put(named(id), flipped))
		w.rebuilds(indexOf(t), 1+1, 1)
	}
}

func TestAHotPackOfWrongBlobs(t *testing.T) {
	// Whether blobs are of their sums isn't asked.
	w := empty(t)
	b, list := forged([]api.ID{sum("1"), sum("2")}, "1", "x")
	id := w.heat(b)
	want := indexOf(t, func(x *index.Index) api.Errno { return x.Put(id, false, list) })
	w.rebuilds(want, 1+1, 1)
	w.mends(1, want, 1+1+1, 1)
	w.check(verify.Report{Bad: []api.ID{id}}, 1+2, 0)
}

func TestColdPacksAreKnown(t *testing.T) {
	w := empty(t)
	w.saveCold("1", "22", "")
	w.saveCold()
	// Hot ones by the depot's index are cold ones, if only the cold store has them.
	w.move(false, w.saveCold("333"))
	// Those that it hasn't aren't known.
	b, _, _ := packed(t, "unknown")
	w.freeze(b)
	// Nor are those that have no pack's name.
	_, id, _ := packed(t, "1", "22", "")
	for _, name := range []string{"pack/", "pack/x", named(id) + "0", named(id)[:68], "pack/" + strings.ToUpper(named(id)[5:]), "x" + named(id), "other"} {
		w.must(w.ice.Put(name, b, 0))
	}
	// A sum of noughts is no other name's.
	w.put(api.ID{}, true, nil)
	want := indexOf(t, coldOf(t, "1", "22", ""), coldOf(t), coldOf(t, "333"))
	w.rebuilds(want, 1, 1)
	w.mends(3, want, 1+1, 1)
	w.mends(3, want, 1+1, 1)
}

func TestColdPacksAreAsTheIndexTells(t *testing.T) {
	w := empty(t)
	_, id, _ := packed(t, "1")
	told := []pack.Entry{{ID: sum("2"), Off: 1 << 20, Len: 7}, {ID: sum("2")}}
	w.put(id, true, told)
	// They aren't got, whatever they are.
	w.must(w.ice.Put(named(id), []byte("junk"), 0))
	w.rebuilds(indexOf(t, func(x *index.Index) api.Errno { return x.Put(id, true, told) }), 1, 1)
}

func TestPacksThatBothStoresHave(t *testing.T) {
	for _, cold := range []bool{false, true} {
		w := empty(t)
		b, id, list := packed(t, "1", "2")
		w.heat(b)
		w.freeze(b)
		w.put(id, cold, list[1:])
		// It is a hot one, as it tells itself.
		w.rebuilds(indexOf(t, hotOf(t, "1", "2")), 1+1, 1)
		// Of other bytes it isn't, and the cold one counts.
		w.must(w.hot.Put(named(id), b[1:]))
		want := indexOf(t, func(x *index.Index) api.Errno { return x.Put(id, true, list[1:]) })
		w.rebuilds(want, 1+1, 1)
		w.mends(1, want, 1+1+1, 1)
	}
	w := empty(t)
	b, _, _ := packed(t, "1")
	w.heat(b)
	w.freeze(b)
	w.rebuilds(indexOf(t, hotOf(t, "1")), 1+1, 1)
}

func TestAnIndexThatWasLost(t *testing.T) {
	w := empty(t)
	root := dir(t, "1", "2")
	w.save(root)
	w.save("1")
	w.save("2", "dead")
	w.keep(1, root)
	want := w.Index()
	w.must(w.hot.Drop("index"))
	w.reopen()
	w.fails(0, api.ErrNone, 2, 0)
	w.mends(3, want, 1+3+1, 1)
	w.check(verify.Report{}, 3+2*3, 0)
}

func TestWhatMendMends(t *testing.T) {
	w := empty(t)
	root := dir(t, "1", "2", "3")
	w.save(root, "2")
	w.saveCold("3")
	w.keep(1, root)
	hot, ice := w.save("dead"), w.saveCold("dead, and cold")
	w.must(w.hot.Drop(named(hot)))
	w.must(w.ice.Drop(named(ice), 0, true))
	bad := w.save("bad")
	w.must(w.hot.Put(named(bad), nil))
	b, _, _ := packed(t, "1")
	w.heat(b)
	w.check(verify.Report{Missing: sums("1"), Lost: sorted(hot, ice), Bad: []api.ID{bad}}, 3+2*2+1, 2)
	want := indexOf(t, hotOf(t, root, "2"), hotOf(t, "1"), coldOf(t, "3"))
	w.mends(3, want, 1+3+1, 1)
	w.check(verify.Report{}, 3+2*2, 1)
}

// mixed is a world of hot and cold packs, of which the depot's index knows the cold ones alone, and what Rebuild must tell.
func mixed(t *testing.T) (*world, *index.Index) {
	t.Helper()
	w := empty(t)
	w.saveCold("3")
	w.saveCold("4")
	for _, b := range []string{"1", "2"} {
		b, _, _ := packed(t, b)
		w.heat(b)
	}
	w.heat([]byte("junk"))
	return w, indexOf(t, hotOf(t, "1"), hotOf(t, "2"), coldOf(t, "3"), coldOf(t, "4"))
}

func TestARebuildThatIsCutShort(t *testing.T) {
	const operations = "hhhhch" // with that of Commit
	for n := range len(operations) + 1 {
		for want, a := range map[api.Errno]arms{api.ErrFault: failing(operations, n), api.ErrCrash: {power: n}} {
			w, made := mixed(t)
			own := w.Index()
			var x *index.Index
			e := api.ErrCrash
			blew := w.do(a, func() { x, e = verify.Rebuild(w.Depot) })
			if n < len(operations)-1 && (e != want || x != nil) || n >= len(operations)-1 && (e != api.OK || !same(x, made)) || blew != (e == api.ErrCrash) {
				t.Errorf("Rebuild behind %d: %v %v %d", n, blew, x, e)
			}
			w.holds(own)
			many := 0
			e = api.ErrCrash
			blew = w.do(a, func() { many, e = verify.Mend(w.Depot) })
			if n == len(operations) {
				if blew || e != api.OK || many != 4 {
					t.Errorf("Mend behind all: %d %d", many, e)
				}
				w.holds(made)
				continue
			}
			if e != want || many != 0 || blew != (want == api.ErrCrash) {
				t.Errorf("Mend behind %d: %v %d %d", n, blew, many, e)
			}
			// The index is the one that it was, until it is another one.
			w.holds(own)
			w.mends(4, made, 5, 1)
		}
	}
}

func TestOperationsOfRebuild(t *testing.T) {
	// The first fault ends it, so that no operation is done behind it.
	for n, want := range [][2]int{{1, 0}, {2, 0}, {3, 0}, {4, 0}, {4, 1}, {5, 1}} {
		w, _ := mixed(t)
		a := failing("hhhhch", n)
		w.hot.Arm(nil, a.hot)
		w.ice.Arm(nil, a.ice)
		w.asks(want[0], want[1], func() {
			if many, e := verify.Mend(w.Depot); many != 0 || e != api.ErrFault {
				t.Errorf("behind %d: %d %d", n, many, e)
			}
		})
	}
}

func TestThePowerGoesThroughMend(t *testing.T) {
	w, _ := mixed(t)
	for n := range 6 {
		fuse := guard.NewFuse(n)
		w.hot.Arm(fuse, nil)
		w.ice.Arm(fuse, nil)
		through := true
		blew := fuse.Catch(func() {
			guard.Run(func() { verify.Mend(w.Depot) })
			through = false
		})
		if !blew || !through {
			t.Errorf("behind %d: %v %v", n, blew, through)
		}
	}
}

func TestMorePacksThanAnIndexHas(t *testing.T) {
	const hots = 1500
	w := empty(t)
	for n := range hots {
		b, _, _ := packed(t, strconv.Itoa(n))
		w.heat(b)
	}
	x := w.Index()
	for n := range api.MaxObjects - hots {
		b, id, list := packed(t, "cold", strconv.Itoa(n))
		w.freeze(b)
		w.must(x.Put(id, true, list))
	}
	w.must(w.Commit(x))
	w.asks(1+hots+1, 1, func() {
		if n, e := verify.Mend(w.Depot); n != api.MaxObjects || e != api.OK {
			t.Errorf("%d %d", n, e)
		}
	})
	w.asks(1+hots, 1, func() {
		if x, e := verify.Rebuild(w.Depot); x == nil || x.Len() != api.MaxObjects || e != api.OK {
			t.Error(e)
		}
	})
	own := w.Index()
	b, _, _ := packed(t, "one more")
	w.heat(b)
	w.asks(1+hots+1, 1, func() {
		if x, e := verify.Rebuild(w.Depot); x != nil || e != api.ErrMany {
			t.Error("Rebuild:", e)
		}
	})
	w.asks(1+hots+1, 1, func() {
		if n, e := verify.Mend(w.Depot); n != 0 || e != api.ErrMany {
			t.Error("Mend:", n, e)
		}
	})
	w.holds(own)
}

func TestAnIndexThatCantBePut(t *testing.T) {
	// An index that is too long: each of these packs has 40 bytes for each blob there.
	w := empty(t)
	for n := range 7 {
		var b pack.Builder
		for i := range api.MaxBlobs {
			if _, e := b.Add([]byte{byte(n), byte(i), byte(i >> 8)}); e != api.OK {
				t.Fatal(e)
			}
		}
		w.heat(b.Done())
	}
	if x, e := verify.Rebuild(w.Depot); e != api.OK || x.Len() != 7 || len(x.Encode()) <= api.MaxObject {
		t.Error(e)
	}
	w.asks(1+7+1, 1, func() {
		if n, e := verify.Mend(w.Depot); n != 0 || e != api.ErrLong {
			t.Error(n, e)
		}
	})
	w.holds(indexOf(t))
	// One for which there is no room.
	b, _, _ := packed(t, "1")
	w = worldOf(t, len(b)+50, 0)
	w.heat(b)
	w.asks(1+1+1, 1, func() {
		if n, e := verify.Mend(w.Depot); n != 0 || e != api.ErrQuota {
			t.Error(n, e)
		}
	})
	w.holds(indexOf(t))
}

func TestAnIndexOfItsOwn(t *testing.T) {
	w, made := mixed(t)
	own := w.Index()
	x, e := verify.Rebuild(w.Depot)
	w.must(e)
	for id := range made.Packs() {
		x.Drop(id)
	}
	w.must(x.Put(api.ID{1}, true, nil))
	w.holds(own)
	w.rebuilds(made, 1+3, 1)
}
