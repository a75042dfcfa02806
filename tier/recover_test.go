package tier_test

import (
	"bytes"
	"strings"
	"testing"

	"coldstore/api"
	"coldstore/sha"
	"coldstore/tier"
)

// recovers tells what Recover must answer, and how many operations it must do.
func (w *world) recovers(now int64, n int, want api.Errno, hot, ice int) {
	w.t.Helper()
	w.asks(hot, ice, func() {
		if got, e := tier.Recover(w.Depot, now); got != n || e != want {
			w.t.Errorf("Recover: %d %d, not %d %d", got, e, n, want)
		}
	})
}

func TestRecoverWithoutNotes(t *testing.T) {
	w := empty(t, 0)
	w.recovers(0, 0, api.OK, 1, 0)
	id := w.save("a")
	away := w.freeze(w.save("b"), 0)
	for _, name := range []string{"move", "move-x", "moved/" + sha.Text(id), "snap/x", "lock/x"} {
		w.must(w.hot.Put(name, nil))
	}
	w.recovers(0, 0, api.OK, 1, 0)
	w.has([]api.ID{id}, []api.ID{away})
	if w.hot.Len() != 2+5 {
		t.Errorf("%d things are left", w.hot.Len())
	}
}

func TestRecoverBehindEachOperation(t *testing.T) {
	// Behind so many operations of a Move: how many names go, and how many operations that takes; and since when the cold pack is there.
	for n, c := range []struct {
		names, hot, ice int
		since           int64
	}{{0, 1, 0, 0}, {1, 6, 2, 9}, {1, 6, 2, 9}, {1, 6, 2, 9}, {1, 5, 1, 5}, {1, 4, 1, 5}, {1, 3, 1, 5}, {0, 1, 0, 5}} {
		for _, a := range []arms{failing("hhcchhh", n), {power: n}} {
			w := empty(t, 0)
			id, other := w.save("a"), w.save("b")
			b, _ := w.hot.Get(named(id))
			w.do(a, w.moved(id, 5))
			w.recovers(9, c.names, api.OK, c.hot, c.ice)
			w.recovers(9, 0, api.OK, 1, 0)
			if n == 0 {
				w.has([]api.ID{id, other}, nil)
				continue
			}
			w.has([]api.ID{other}, []api.ID{id})
			w.must(w.ice.Request(named(id), 9, 0))
			if got, e := w.ice.Get(named(id), 9); e != api.OK || !bytes.Equal(got, b) || w.ice.Left(named(id), c.since) != 10 || w.ice.Lost() != 0 {
				t.Errorf("behind %d: the cold pack: %d", n, e)
			}
			w.reopen()
			w.has([]api.ID{other}, []api.ID{id})
		}
	}
}

func TestNotesOfWhateverStands(t *testing.T) {
	const none, hot, cold = 0, 1, 2
	for i, c := range []struct {
		index        int
		isHot, isIce bool
		// How it must stand behind it, and how many operations it takes.
		behind         int
		hotLeft, inIce bool
		hots, ices     int
	}{
		{none, false, false, none, false, false, 3, 1},
		{none, true, false, none, true, false, 3, 1},
		{none, false, true, none, false, true, 3, 1},
		{none, true, true, none, true, true, 3, 1},
		{hot, false, false, hot, false, false, 3, 1},
		{hot, true, false, cold, false, true, 6, 2},
		{hot, false, true, cold, false, true, 4, 1},
		{hot, true, true, cold, false, true, 5, 1},
		{cold, false, false, cold, false, false, 3, 1},
		{cold, true, false, cold, false, false, 4, 1},
		{cold, false, true, cold, false, true, 3, 1},
		{cold, true, true, cold, false, true, 4, 1},
	} {
		w := empty(t, 0)
		b, id, list := packed(t, "a")
		all := []api.ID{id}
		has := func(is bool) []api.ID {
			if is {
				return all
			}
			return nil
		}
		if c.index != none {
			w.put(id, c.index == cold, list)
		}
		if c.isHot {
			w.must(w.hot.Put(named(id), b))
		}
		if c.isIce {
			w.must(w.ice.Put(named(id), b, 0))
		}
		w.must(w.hot.Put(noted(id), nil))
		w.recovers(9, 1, api.OK, c.hots, c.ices)
		w.stands(has(c.hotLeft), has(c.inIce), has(c.behind == hot), has(c.behind == cold), nil)
		if t.Failed() {
			t.Fatalf("case %d", i)
		}
	}
}

func TestRecoverOfManyNotes(t *testing.T) {
	// The notes; what is none; of one, from its beginning on; of one that is in both stores; of one that nobody has.
	const operations = "h" + "h" + "hchchhh" + "hchhh" + "hch"
	for n := range len(operations) + 1 {
		for _, power := range []bool{false, true} {
			w := empty(t, 0)
			packs := append(sorted(w.save("a"), w.save("b")), w.save("c"))
			b, _ := w.hot.Get(named(packs[1]))
			w.must(w.ice.Put(named(packs[1]), b, 3))
			for _, name := range []string{"move/!", noted(packs[0]), noted(packs[1]), noted(api.ID{255, 255, 255})} {
				w.must(w.hot.Put(name, nil))
			}
			want, names := api.ErrFault, 0
			for _, behind := range []int{2, 9, 14, 17} {
				if n >= behind {
					names++
				}
			}
			a := failing(operations, n)
			if n == len(operations) {
				want = api.OK
			}
			if power {
				a = arms{power: n}
			}
			if power && want != api.OK {
				want, names = api.ErrCrash, 0
			}
			got, e := w.do(a, func() (int, api.Errno) { return tier.Recover(w.Depot, 9) })
			if got != names || e != want {
				t.Errorf("behind %d: %d %d, not %d %d", n, got, e, names, want)
			}
			if _, e := tier.Recover(w.Depot, 10); e != api.OK {
				t.Errorf("behind %d: %d", n, e)
			}
			w.has(packs[2:], packs[:2])
			if w.ice.Lost() != 0 {
				t.Errorf("behind %d: %d were lost", n, w.ice.Lost())
			}
		}
	}
}

func TestNamesThatAreNoNotes(t *testing.T) {
	w := empty(t, 0)
	id := w.save("a")
	digits := sha.Text(id)
	list := []string{"", "x", digits[1:], digits + "0", strings.ToUpper(digits), digits[:63] + "g", "move/" + digits, "pack/" + digits}
	for _, name := range list {
		w.must(w.hot.Put("move/"+name, []byte("whatever")))
	}
	w.recovers(0, len(list), api.OK, 1+len(list), 0)
	w.has([]api.ID{id}, nil)
	// A note that has bytes is one by its name.
	w.must(w.hot.Put(noted(id), []byte("whatever")))
	w.recovers(0, 1, api.OK, 1+1+1+1+1+1, 2)
	w.has(nil, []api.ID{id})
}
