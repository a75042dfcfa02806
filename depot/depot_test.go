package depot_test

import (
	"bytes"
	"crypto/sha256"
	"encoding/binary"
	"encoding/hex"
	"hash/crc32"
	"math"
	"slices"
	"strings"
	"testing"

	"coldstore/api"
	"coldstore/cold"
	"coldstore/depot"
	"coldstore/guard"
	"coldstore/index"
	"coldstore/object"
	"coldstore/pack"
)

// sum is a blob's sum.
func sum(b string) api.ID {
	return api.ID(sha256.Sum256([]byte(b)))
}

// sealed is bytes, sealed as layer 4 says.
func sealed(kind byte, body []byte) []byte {
	b := append([]byte{kind}, body...)
	return binary.LittleEndian.AppendUint32(b, crc32.Checksum(b, crc32.MakeTable(crc32.Castagnoli)))
}

// packed is the bytes of a pack of blobs, and where each of them stands.
func packed(blobs ...string) (string, []pack.Entry) {
	head := binary.LittleEndian.AppendUint32(nil, uint32(len(blobs)))
	var list []pack.Entry
	off := 0
	for _, b := range blobs {
		id := sum(b)
		head = append(head, id[:]...)
		head = binary.LittleEndian.AppendUint32(head, uint32(len(b)))
		list = append(list, pack.Entry{ID: id, Off: off, Len: len(b)})
		off += len(b)
	}
	head = sealed(80, head)
	return strings.Join(blobs, "") + string(head) + string(binary.LittleEndian.AppendUint32(nil, uint32(len(head)))), list
}

// named is the name of a pack's bytes.
func named(b string) string {
	id := sum(b)
	return "pack/" + hex.EncodeToString(id[:])
}

// stores is two stores with room enough: of the cold one jobs are done at once, and what is thawed lives for 10.
func stores(t *testing.T) (*object.Store, *cold.Store) {
	t.Helper()
	hot, e := object.New(1 << 30)
	away, f := cold.New(1<<30, 64, 10, 0)
	if e != api.OK || f != api.OK {
		t.Fatal(e, f)
	}
	return hot, away
}

// opened is a depot of two stores.
func opened(t *testing.T, hot *object.Store, away *cold.Store, limit int) *depot.Depot {
	t.Helper()
	d, e := depot.Open(hot, away, limit)
	if e != api.OK {
		t.Fatalf("Open: %d", e)
	}
	return d
}

// fresh is a depot of two stores that have nothing.
func fresh(t *testing.T) (*depot.Depot, *object.Store) {
	t.Helper()
	hot, away := stores(t)
	return opened(t, hot, away, 1000), hot
}

// things is the names of a store's things.
func things(s *object.Store) []string {
	var list []string
	for name := range s.All() {
		list = append(list, name)
	}
	return list
}

// added tells that a blob is added, and with which error.
func added(t *testing.T, s *depot.Saver, blob string, want api.Errno) {
	t.Helper()
	if id, e := s.Add([]byte(blob)); id != sum(blob) || e != want {
		t.Fatalf("%.20q: %x, %d, not %d", blob, id, e, want)
	}
}

// done tells with which error a saver is done.
func done(t *testing.T, s *depot.Saver, want api.Errno) {
	t.Helper()
	if e := s.Done(); e != want {
		t.Fatalf("Done: %d, not %d", e, want)
	}
}

// hasThings tells that a hot store has these packs, and an index of just these, in which they are hot ones; nil: no index.
func hasThings(t *testing.T, hot *object.Store, packs [][]string, committed [][]string) {
	t.Helper()
	var want []string
	for _, p := range packs {
		b, _ := packed(p...)
		want = append(want, named(b))
		if got, e := hot.Get(named(b)); e != api.OK || string(got) != b {
			t.Errorf("pack %.20q: %d", p, e)
		}
	}
	if committed != nil {
		want = append(want, "index")
		var x index.Index
		for _, p := range committed {
			b, list := packed(p...)
			x.Put(sum(b), false, list)
		}
		if got, e := hot.Get("index"); e != api.OK || !bytes.Equal(got, x.Encode()) {
			t.Errorf("the index is another one: %d", e)
		}
	}
	slices.Sort(want)
	if got := things(hot); !slices.Equal(got, want) {
		t.Errorf("%v, not %v", got, want)
	}
}

func TestOpen(t *testing.T) {
	var x index.Index
	x.Put(api.ID{7}, true, []pack.Entry{{ID: api.ID{9}, Off: 1, Len: 2}})
	for i, c := range []struct {
		there  bool
		b      []byte
		faults []bool
		e      api.Errno
		len    int
	}{
		{false, nil, nil, api.OK, 0},
		{true, x.Encode(), nil, api.OK, 1},
		{true, new(index.Index).Encode(), []bool{false, true}, api.OK, 0},
		{false, nil, []bool{true}, api.ErrFault, 0},
		{true, x.Encode(), []bool{true}, api.ErrFault, 0},
		{true, nil, nil, api.ErrShort, 0},
		{true, []byte("no index"), nil, api.ErrSum, 0},
		{true, sealed(80, []byte{0, 0, 0, 0}), nil, api.ErrForm, 0},
		{true, sealed(73, []byte{1, 0, 0, 0}), nil, api.ErrForm, 0},
	} {
		hot, away := stores(t)
		if c.there {
			hot.Put("index", c.b)
		}
		ahead := hot.Ops()
		hot.Arm(nil, c.faults)
		d, e := depot.Open(hot, away, 5)
		if e != c.e || (d == nil) != (e != api.OK) || hot.Ops() != ahead+1 || away.Ops() != 0 {
			t.Fatalf("case %d: %d, %d operations", i, e, hot.Ops()-ahead)
		}
		if d != nil && (d.Index().Len() != c.len || d.Hot() != hot || d.Cold() != away || d.Cache().Len() != 0) {
			t.Errorf("case %d: %d packs", i, d.Index().Len())
		}
	}
}

func TestTheCacheIsOfALimit(t *testing.T) {
	hot, away := stores(t)
	for _, c := range []struct{ limit, kept int }{{3, 3}, {2, 2}, {0, 0}, {-7, 0}, {math.MinInt64, 0}, {math.MaxInt64, 3}} {
		d := opened(t, hot, away, c.limit)
		for _, b := range []string{"a", "b", "c"} {
			d.Cache().Put([]byte(b))
		}
		if d.Cache().Len() != c.kept {
			t.Errorf("%v: %d", c, d.Cache().Len())
		}
	}
}

func TestIndexIsACopy(t *testing.T) {
	d, hot := fresh(t)
	x := d.Index()
	x.Put(api.ID{1}, false, nil)
	if d.Index().Len() != 0 {
		t.Error("what was handed out is the depot's own")
	}
	if e := d.Commit(x); e != api.OK || d.Index().Len() != 1 || hot.Ops() != 2 {
		t.Errorf("Commit: %d", e)
	}
	x.Put(api.ID{2}, false, nil)
	x.Drop(api.ID{1})
	if y := d.Index(); y.Len() != 1 || !y.Move(api.ID{1}, true) {
		t.Error("what was committed is kept itself")
	}
	for _, cold := range d.Index().Packs() {
		if cold {
			t.Error("what was handed out is the depot's own")
		}
	}
}

func TestCommitThatFails(t *testing.T) {
	hot, _ := object.New(60)
	_, away := stores(t)
	d := opened(t, hot, away, 0)
	one := d.Index()
	one.Put(api.ID{1}, false, nil)
	if e := d.Commit(one); e != api.OK {
		t.Fatal(e)
	}
	two := d.Index()
	two.Put(api.ID{2}, true, nil)
	for _, c := range []struct {
		faults []bool
		e      api.Errno
	}{{[]bool{true}, api.ErrFault}, {nil, api.ErrQuota}} {
		hot.Arm(nil, c.faults)
		if e := d.Commit(two); e != c.e || !bytes.Equal(d.Index().Encode(), one.Encode()) {
			t.Errorf("%d, not %d", e, c.e)
		}
		hot.Arm(nil, nil)
		if b, _ := hot.Get("index"); !bytes.Equal(b, one.Encode()) {
			t.Error("the store's index is another one")
		}
	}
	f := guard.NewFuse(0)
	hot.Arm(f, nil)
	if !f.Catch(func() { d.Commit(d.Index()) }) {
		t.Error("the fuse doesn't go through")
	}
}

func TestCommitOfAnIndexThatIsTooLong(t *testing.T) {
	d, hot := fresh(t)
	x := d.Index()
	x.Put(api.ID{1}, false, make([]pack.Entry, 4096))
	for i := range 6 {
		x.Put(api.ID{2, byte(i)}, false, make([]pack.Entry, 4096))
	}
	if e := d.Commit(x); e != api.ErrLong || d.Index().Len() != 0 || hot.Len() != 0 {
		t.Errorf("%d", e)
	}
}

// loads tells what a blob's Load answers.
func loads(t *testing.T, d *depot.Depot, blob string, now int64, want api.Errno) {
	t.Helper()
	b, e := d.Load(sum(blob), now)
	if want != api.OK {
		blob = ""
	}
	if e != want || string(b) != blob {
		t.Errorf("%.20q: %.20q %d, not %d", blob, b, e, want)
	}
}

func TestLoadFromTheHotStore(t *testing.T) {
	d, hot := fresh(t)
	s := d.Saver(1000)
	for _, b := range []string{"one", "", "two"} {
		added(t, s, b, api.OK)
	}
	loads(t, d, "one", 0, api.ErrNone)
	done(t, s, api.OK)
	for i, b := range []string{"two", "one", "", "two", "one"} {
		ahead := hot.Ops()
		loads(t, d, b, int64(-i), api.OK)
		if asked := hot.Ops() - ahead; asked != 1 && i < 3 || asked != 0 && i >= 3 {
			t.Errorf("%d: %d operations", i, asked)
		}
	}
	if got := slices.Collect(d.Cache().All()); !slices.Equal(got, []api.ID{sum(""), sum("two"), sum("one")}) {
		t.Error("what is loaded is used")
	}
	loads(t, d, "three", 0, api.ErrNone)
	b, _ := d.Load(sum("one"), 0)
	b[0] = 'x'
	clear(b[:cap(b)])
	loads(t, d, "one", 0, api.OK)
	d.Cache().Wipe()
	b, _ = d.Load(sum("one"), 0)
	clear(b[:cap(b)])
	loads(t, d, "one", 0, api.OK)
}

func TestLoadWhateverTheCacheIs(t *testing.T) {
	d, hot := fresh(t)
	s := d.Saver(1)
	added(t, s, "blob", api.OK)
	done(t, s, api.OK)
	loads(t, d, "blob", 0, api.OK)
	d.Cache().Spoil(sum("blob"), 9)
	ahead := hot.Ops()
	loads(t, d, "blob", 0, api.OK)
	if hot.Ops() != ahead+1 || d.Cache().Len() != 1 {
		t.Error("a spoilt blob wasn't asked for anew")
	}
	hot.Drop(things(hot)[1])
	loads(t, d, "blob", 0, api.OK)
	d.Cache().Wipe()
	loads(t, d, "blob", 0, api.ErrNone)
	d.Cache().Put([]byte("of nobody"))
	loads(t, d, "of nobody", 0, api.OK)
	if d.Cache().Len() != 1 {
		t.Error("what isn't had is kept")
	}
}

func TestLoadFromTheColdStore(t *testing.T) {
	hot, away := stores(t)
	d := opened(t, hot, away, 1000)
	b, list := packed("one", "two")
	x := d.Index()
	x.Put(sum(b), true, list)
	if e := d.Commit(x); e != api.OK {
		t.Fatal(e)
	}
	// A hot one of that name isn't asked.
	hot.Put(named(b), []byte(b))
	loads(t, d, "one", 0, api.ErrNone)
	away.Put(named(b), []byte(b), 0)
	loads(t, d, "one", 0, api.ErrThaw)
	away.Request(named(b), 0, 3)
	for _, c := range []struct {
		now int64
		e   api.Errno
	}{{2, api.ErrThaw}, {3, api.OK}, {12, api.OK}, {13, api.ErrThaw}, {4, api.OK}} {
		ahead, hots := away.Ops(), hot.Ops()
		loads(t, d, "two", c.now, c.e)
		if away.Ops() != ahead+1 || hot.Ops() != hots || d.Cache().Len() != 0 {
			t.Errorf("at %d: %d operations, %d kept", c.now, away.Ops()-ahead, d.Cache().Len())
		}
	}
	away.Arm(nil, []bool{true})
	loads(t, d, "two", 4, api.ErrFault)
	d.Cache().Put([]byte("two"))
	ahead := away.Ops()
	loads(t, d, "two", 100, api.OK)
	if away.Ops() != ahead {
		t.Error("what is kept near was asked for")
	}
}

func TestLoadAsksTheHotPackFirst(t *testing.T) {
	d, hot := fresh(t)
	b, list := packed("one", "two")
	c, other := packed("two", "one")
	x := d.Index()
	x.Put(sum(b), true, list)
	x.Put(sum(c), false, other)
	if e := d.Commit(x); e != api.OK {
		t.Fatal(e)
	}
	hot.Put(named(c), []byte(c))
	loads(t, d, "one", 0, api.OK)
	if d.Cache().Len() != 1 {
		t.Error("what came from the hot store isn't kept")
	}
}

func TestLoadOfWhatIsntThere(t *testing.T) {
	d, hot := fresh(t)
	b, list := packed("one", "two")
	for i, c := range []struct {
		e   pack.Entry
		err api.Errno
	}{
		{list[1], api.OK},
		{pack.Entry{ID: list[1].ID, Off: 0, Len: 3}, api.ErrHash},
		{pack.Entry{ID: list[1].ID, Off: 3, Len: 4}, api.ErrHash},
		{pack.Entry{ID: list[1].ID, Off: len(b), Len: 1}, api.ErrRange},
		{pack.Entry{ID: list[1].ID, Off: 1 << 20, Len: 1 << 20}, api.ErrRange},
	} {
		var x index.Index
		x.Put(sum(b), false, []pack.Entry{c.e})
		if e := d.Commit(&x); e != api.OK {
			t.Fatal(e)
		}
		hot.Put(named(b), []byte(b))
		loads(t, d, "two", 0, c.err)
		if (d.Cache().Len() == 1) != (c.err == api.OK) {
			t.Errorf("case %d: %d kept", i, d.Cache().Len())
		}
		d.Cache().Wipe()
		hot.Drop(named(b))
		loads(t, d, "two", 0, api.ErrNone)
		hot.Arm(nil, []bool{true})
		loads(t, d, "two", 0, api.ErrFault)
	}
	f := guard.NewFuse(0)
	hot.Arm(f, nil)
	if !f.Catch(func() { d.Load(sum("two"), 0) }) {
		t.Error("the fuse doesn't go through")
	}
	loads(t, d, "none", 0, api.ErrNone)
}
