package backup_test

import (
	"bytes"
	"slices"
	"testing"

	"coldstore/api"
	"coldstore/backup"
	"coldstore/guard"
	"coldstore/object"
	"coldstore/seal"
	"coldstore/snap"
)

// store is a store with room enough.
func store(t *testing.T) *object.Store {
	t.Helper()
	s, e := object.New(1 << 24)
	if e != api.OK {
		t.Fatal(e)
	}
	return s
}

// put puts a thing.
func put(t *testing.T, s *object.Store, name string, b []byte) {
	t.Helper()
	if e := s.Put(name, b); e != api.OK {
		t.Fatalf("%s: %d", name, e)
	}
}

// encoded is the bytes of a snapshot that must be right.
func encoded(t *testing.T, s snap.Snap) []byte {
	t.Helper()
	b, e := snap.Encode(s)
	if e != api.OK {
		t.Fatalf("%v: %d", s, e)
	}
	return b
}

// ladder is snapshots, each ahead of the next one.
func ladder() []snap.Snap {
	var list []snap.Snap
	for time := range int64(3) {
		for _, host := range []string{"a", "a-b", "aa", "b"} {
			for _, tag := range []string{"", "x"} {
				for n := range 3 {
					list = append(list, snap.Snap{Time: time, Host: host, Tag: tag, Root: api.ID{byte(n)}, Files: 9, Bytes: 9})
				}
			}
		}
	}
	last := snap.Snap{Time: 1 << 50, Host: "z", Files: 1}
	return append(list, last, snap.Snap{Time: 1 << 50, Host: "z", Files: 2}, snap.Snap{Time: 1 << 50, Host: "z", Files: 2, Bytes: 1})
}

// noSnapshots is bytes that are no snapshot's, each with layer 11's error.
func noSnapshots(t *testing.T) map[api.Errno][][]byte {
	whole := encoded(t, snap.Snap{Host: "a"})
	broken := slices.Clone(whole)
	broken[9] ^= 1
	return map[api.Errno][][]byte{
		api.ErrShort: {nil, {83}, whole[:4]},
		api.ErrSum:   {broken, whole[1:], whole[:len(whole)-1], append(slices.Clone(whole), 0)},
		api.ErrForm:  {seal.Seal(84, whole[1:len(whole)-4]), seal.Seal(83, nil), seal.Seal(83, append(slices.Clone(whole[1:len(whole)-4]), 0)), seal.Seal(83, make([]byte, 60))},
	}
}

func TestListIsSorted(t *testing.T) {
	s := store(t)
	var want []backup.Named
	for _, x := range ladder() {
		b := encoded(t, x)
		put(t, s, named(b), b)
		want = append(want, backup.Named{Name: named(b), Snap: x})
	}
	// Names have another order.
	if slices.IsSortedFunc(want, func(a, b backup.Named) int { return bytes.Compare([]byte(a.Name), []byte(b.Name)) }) {
		t.Fatal("names are sorted")
	}
	ops := s.Ops()
	lists(t, s, want...)
	if s.Ops() != ops+1+len(want) {
		t.Errorf("%d operations, not %d", s.Ops()-ops, 1+len(want))
	}
}

func TestListOfNothing(t *testing.T) {
	s := store(t)
	lists(t, s)
	if s.Ops() != 1 {
		t.Errorf("%d operations", s.Ops())
	}
	b := encoded(t, snap.Snap{Host: "a"})
	// These names don't begin with snap/.
	for _, name := range []string{"snap", "snap-" + named(b)[5:], named(b)[5:], "Snap/" + named(b)[5:], "xsnap/" + named(b)[5:], "pack/" + named(b)[5:], "index"} {
		put(t, s, name, b)
	}
	ops := s.Ops()
	lists(t, s)
	if s.Ops() != ops+1 {
		t.Errorf("%d operations", s.Ops()-ops)
	}
}

func TestWhatIsNoSnapshotIsLeftOut(t *testing.T) {
	s := store(t)
	var want []backup.Named
	for time := range int64(3) {
		x := snap.Snap{Time: time, Host: "a"}
		b := encoded(t, x)
		put(t, s, named(b), b)
		want = append(want, backup.Named{Name: named(b), Snap: x})
	}
	// A snapshot's bytes, of another name.
	other := encoded(t, snap.Snap{Time: 9, Host: "a"})
	digits := named(other)[5:]
	for _, name := range []string{"snap/", "snap/x", "snap//" + digits, "snap/" + digits + "0", "snap/" + digits[1:], "snap/snap/" + digits, "snap/" + string(bytes.ToUpper([]byte(digits)))} {
		put(t, s, name, other)
	}
	for _, list := range noSnapshots(t) {
		for _, b := range list {
			put(t, s, named(b), b)
		}
	}
	ops, n := s.Ops(), s.Len()
	lists(t, s, want...)
	// Each of them is got, whatever it is.
	if s.Ops() != ops+1+n {
		t.Errorf("%d operations, not %d", s.Ops()-ops, 1+n)
	}
	// What was left out is listed under its own name.
	put(t, s, named(other), other)
	lists(t, s, append(want, backup.Named{Name: named(other), Snap: snap.Snap{Time: 9, Host: "a"}})...)
}

func TestAFaultEndsList(t *testing.T) {
	s := store(t)
	for _, x := range ladder()[:5] {
		b := encoded(t, x)
		put(t, s, named(b), b)
	}
	put(t, s, "snap/!", nil)
	put(t, s, "snap/~", nil)
	for n := range 8 {
		ops := s.Ops()
		s.Arm(nil, append(make([]bool, n), true))
		if got, e := backup.List(s); e != api.ErrFault || len(got) != 0 || s.Ops() != ops+n+1 {
			t.Errorf("fault %d: %v %d, %d operations", n, got, e, s.Ops()-ops)
		}
	}
	s.Arm(nil, append(make([]bool, 8), true))
	if got, e := backup.List(s); e != api.OK || len(got) != 5 {
		t.Errorf("%v %d", got, e)
	}
}

func TestLoad(t *testing.T) {
	s := store(t)
	for _, x := range ladder() {
		b := encoded(t, x)
		put(t, s, named(b), b)
		ops := s.Ops()
		if got, e := backup.Load(s, named(b)); e != api.OK || got != x || s.Ops() != ops+1 {
			t.Errorf("%v: %v %d", x, got, e)
		}
	}
}

// notLoaded tells with which error nothing is loaded.
func notLoaded(t *testing.T, s *object.Store, name string, want api.Errno) {
	t.Helper()
	ops := s.Ops()
	if got, e := backup.Load(s, name); e != want || got != (snap.Snap{}) || s.Ops() != ops+1 {
		t.Errorf("%q: %v %d, not %d", name, got, e, want)
	}
}

func TestLoadOfWhatIsNoSnapshot(t *testing.T) {
	s := store(t)
	b := encoded(t, snap.Snap{Host: "a"})
	for _, name := range []string{"", "snap", "snap/", named(b), " ", string(make([]byte, 1000))} {
		notLoaded(t, s, name, api.ErrNone)
	}
	// The bytes are of another name: that is looked for first.
	put(t, s, "x", b)
	put(t, s, "snap/x", b)
	put(t, s, named(b)[5:], b)
	put(t, s, "snap/y", nil)
	for _, name := range []string{"x", "snap/x", named(b)[5:], "snap/y"} {
		notLoaded(t, s, name, api.ErrHash)
	}
	for e, list := range noSnapshots(t) {
		for _, b := range list {
			put(t, s, named(b), b)
			notLoaded(t, s, named(b), e)
			put(t, s, named(b), append(b[:len(b):len(b)], 1))
			notLoaded(t, s, named(b), api.ErrHash)
		}
	}
	put(t, s, named(b), b)
	s.Arm(nil, []bool{true, true})
	notLoaded(t, s, named(b), api.ErrFault)
	notLoaded(t, s, "none", api.ErrFault)
	if got, e := backup.Load(s, named(b)); e != api.OK || got != (snap.Snap{Host: "a"}) {
		t.Errorf("%v %d", got, e)
	}
}

func TestABlownFuseGoesThrough(t *testing.T) {
	d, hot := depots(t, 1<<30)
	n := kept(t, d, tree(1), job(5))
	for i, c := range []struct {
		steps int
		do    func()
	}{
		{0, func() { backup.Load(hot, n.Name) }},
		{0, func() { backup.List(hot) }},
		{1, func() { backup.List(hot) }},
		{0, func() { backup.Run(d, tree(1), job(6)) }},
		{0, func() { backup.Run(d, tree(2), job(6)) }},
		{1, func() { backup.Run(d, tree(2), job(6)) }},
	} {
		fuse := guard.NewFuse(c.steps)
		hot.Arm(fuse, nil)
		through := true
		blew := fuse.Catch(func() {
			guard.Run(c.do)
			through = false
		})
		if !blew || !through {
			t.Errorf("case %d: %v %v", i, blew, through)
		}
	}
	hot.Arm(nil, nil)
	lists(t, hot, n)
}
