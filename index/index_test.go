package index_test

import (
	"bytes"
	"encoding/binary"
	"hash/crc32"
	"math"
	"math/rand"
	"slices"
	"testing"

	"coldstore/api"
	"coldstore/index"
	"coldstore/pack"
)

// row is a pack of an index.
type row struct {
	id   api.ID
	cold bool
	list []pack.Entry
}

// id is a sum that begins with a number, the highest byte first, so that sums rise as numbers do.
func id(n int) api.ID {
	return api.ID(append(binary.BigEndian.AppendUint32(nil, uint32(n)), make([]byte, 28)...))
}

// entry is a blob's place in a pack.
func entry(n, off, length int) pack.Entry {
	return pack.Entry{ID: id(n), Off: off, Len: length}
}

// sealed is a body's bytes, sealed as of a kind.
func sealed(kind byte, body []byte) []byte {
	b := append([]byte{kind}, body...)
	return binary.LittleEndian.AppendUint32(b, crc32.Checksum(b, crc32.MakeTable(crc32.Castagnoli)))
}

// number is a number of four bytes.
func number(n int) []byte {
	return binary.LittleEndian.AppendUint32(nil, uint32(n))
}

// packBytes is a pack's bytes in an index, with a mark, and how many blobs it tells of.
func packBytes(id api.ID, mark byte, n int, list []pack.Entry) []byte {
	b := append(id[:], mark)
	b = append(b, number(n)...)
	for _, e := range list {
		b = slices.Concat(b, e.ID[:], number(e.Off), number(e.Len))
	}
	return b
}

// rowBytes is a pack's bytes, as the chapter says them.
func rowBytes(r row) []byte {
	mark := byte(0)
	if r.cold {
		mark = 1
	}
	return packBytes(r.id, mark, len(r.list), r.list)
}

// body is an index's bytes ahead of being sealed: how many packs it tells of, and these, as they stand.
func body(n int, rows ...row) []byte {
	b := number(n)
	for _, r := range rows {
		b = append(b, rowBytes(r)...)
	}
	return b
}

// sorted is packs, by their sums.
func sorted(rows []row) []row {
	rows = slices.Clone(rows)
	slices.SortFunc(rows, func(a, b row) int { return bytes.Compare(a.id[:], b.id[:]) })
	return rows
}

// made is an index of packs.
func made(t *testing.T, rows ...row) *index.Index {
	t.Helper()
	var x index.Index
	for _, r := range rows {
		if e := x.Put(r.id, r.cold, r.list); e != api.OK {
			t.Fatalf("Put: %d", e)
		}
	}
	return &x
}

// place is a blob's place in packs, as the chapter says it.
func place(rows []row, blob api.ID) (api.Place, bool) {
	for _, cold := range []bool{false, true} {
		for _, r := range sorted(rows) {
			for _, e := range r.list {
				if r.cold == cold && e.ID == blob {
					return api.Place{Pack: r.id, Off: e.Off, Len: e.Len, Cold: cold}, true
				}
			}
		}
	}
	return api.Place{}, false
}

// blobs is all blobs of packs, rising, each once.
func blobs(rows []row) []api.ID {
	var list []api.ID
	for _, r := range rows {
		for _, e := range r.list {
			if !slices.Contains(list, e.ID) {
				list = append(list, e.ID)
			}
		}
	}
	slices.SortFunc(list, func(a, b api.ID) int { return bytes.Compare(a[:], b[:]) })
	return list
}

// same tells that an index is that of packs, however it is asked, and that a few blobs more aren't found.
func same(t *testing.T, x *index.Index, rows []row) {
	t.Helper()
	if x.Len() != len(rows) {
		t.Fatalf("%d packs, not %d", x.Len(), len(rows))
	}
	rows = sorted(rows)
	n := 0
	for got, cold := range x.Packs() {
		if n == len(rows) || got != rows[n].id || cold != rows[n].cold {
			t.Fatalf("pack %d: %x, %v", n, got, cold)
		}
		n++
	}
	if n != len(rows) {
		t.Fatalf("%d packs gone through, not %d", n, len(rows))
	}
	for _, r := range rows {
		if list, cold, there := x.Pack(r.id); !there || cold != r.cold || !slices.Equal(list, r.list) {
			t.Fatalf("pack %x: %d blobs, %v %v", r.id, len(list), cold, there)
		}
	}
	all := blobs(rows)
	if got := slices.Collect(x.Blobs()); !slices.Equal(got, all) {
		t.Fatalf("%d blobs, not %d", len(got), len(all))
	}
	for _, blob := range append(all, id(1<<20), api.ID{}) {
		want, there := place(rows, blob)
		if got, found := x.Find(blob); got != want || found != there {
			t.Fatalf("blob %x: %v %v, not %v %v", blob, got, found, want, there)
		}
	}
	if !bytes.Equal(x.Encode(), sealed(73, body(len(rows), rows...))) {
		t.Fatal("other bytes")
	}
}

func TestNoPacks(t *testing.T) {
	var x index.Index
	same(t, &x, nil)
	if b := x.Encode(); len(b) != 9 || !bytes.Equal(b, sealed(73, []byte{0, 0, 0, 0})) {
		t.Errorf("%x", b)
	}
	if x.Drop(api.ID{}) || x.Move(api.ID{}, true) || x.Move(api.ID{}, false) {
		t.Error("a pack is there")
	}
	if list, cold, there := x.Pack(api.ID{}); len(list) != 0 || cold || there {
		t.Error("a pack is told")
	}
	same(t, &x, nil)
	same(t, x.Clone(), nil)
	y, e := index.Decode(x.Encode())
	if e != api.OK {
		t.Fatal(e)
	}
	same(t, y, nil)
	// What has no packs takes some, however it came to be.
	for _, z := range []*index.Index{&x, x.Clone(), y} {
		if e := z.Put(id(1), false, nil); e != api.OK || z.Len() != 1 {
			t.Errorf("%d", e)
		}
	}
}

func TestPutDropMove(t *testing.T) {
	first := row{id(5), false, []pack.Entry{entry(1, 0, 3), entry(2, 3, 4)}}
	second := row{id(3), true, []pack.Entry{entry(3, 0, 1)}}
	third := row{api.ID{}, false, nil}
	x := made(t, first, second, third)
	same(t, x, []row{first, second, third})
	if x.Drop(id(4)) || x.Move(id(4), true) || x.Move(id(4), false) {
		t.Error("a pack that isn't there was")
	}
	same(t, x, []row{first, second, third})
	if !x.Move(first.id, true) || !x.Move(second.id, false) || !x.Move(third.id, false) {
		t.Error("a pack that is there wasn't")
	}
	first.cold, second.cold = true, false
	same(t, x, []row{first, second, third})
	if !x.Drop(first.id) || x.Drop(first.id) || x.Move(first.id, false) {
		t.Error("a pack goes once")
	}
	same(t, x, []row{second, third})
	// It may be there again, with other blobs.
	first = row{first.id, false, []pack.Entry{entry(9, 1, 2)}}
	if e := x.Put(first.id, false, first.list); e != api.OK {
		t.Error(e)
	}
	same(t, x, []row{first, second, third})
}

func TestPutOfNumbersAtTheirBounds(t *testing.T) {
	for _, c := range []struct {
		off, length int
		want        api.Errno
	}{
		{0, 0, api.OK},
		{1 << 20, 0, api.OK},
		{0, 1 << 20, api.OK},
		{1 << 20, 1 << 20, api.OK},
		{1<<20 + 1, 0, api.ErrRange},
		{0, 1<<20 + 1, api.ErrRange},
		{-1, 0, api.ErrRange},
		{0, -1, api.ErrRange},
		{math.MaxInt, math.MaxInt, api.ErrRange},
		{math.MinInt, math.MinInt, api.ErrRange},
		{1 << 32, 0, api.ErrRange},
		{0, 1 << 32, api.ErrRange},
	} {
		wrong := row{id(1), false, []pack.Entry{entry(1, c.off, c.length)}}
		for _, list := range [][]pack.Entry{wrong.list, append(wrong.list, entry(2, 0, 0)), append([]pack.Entry{entry(2, 0, 0)}, wrong.list...)} {
			var x index.Index
			if e := x.Put(wrong.id, true, list); e != c.want {
				t.Errorf("from %d on, %d: %d, not %d", c.off, c.length, e, c.want)
			}
			if c.want == api.OK {
				same(t, &x, []row{{wrong.id, true, list}})
			} else {
				same(t, &x, nil)
			}
		}
	}
}

// noughts is so many blobs of no bytes.
func noughts(n int) []pack.Entry {
	list := make([]pack.Entry, n)
	for i := range list {
		list[i].ID = id(i)
	}
	return list
}

func TestPutOfManyBlobs(t *testing.T) {
	var x index.Index
	if e := x.Put(id(1), false, noughts(4097)); e != api.ErrMany {
		t.Errorf("4097: %d", e)
	}
	same(t, &x, nil)
	if e := x.Put(id(1), false, noughts(4096)); e != api.OK {
		t.Errorf("4096: %d", e)
	}
	if list, _, there := x.Pack(id(1)); !there || !slices.Equal(list, noughts(4096)) {
		t.Errorf("%d blobs", len(list))
	}
	if got, found := x.Find(id(4095)); got != (api.Place{Pack: id(1)}) || !found {
		t.Errorf("the last blob: %v %v", got, found)
	}
}

func TestPutOfManyPacks(t *testing.T) {
	var x index.Index
	for i := range 4096 {
		if e := x.Put(id(i), i%3 == 0, []pack.Entry{entry(i/2, i, 1)}); e != api.OK {
			t.Fatalf("pack %d: %d", i, e)
		}
	}
	b := x.Encode()
	if e := x.Put(id(4096), false, nil); e != api.ErrMany {
		t.Errorf("4097: %d", e)
	}
	if e := x.Put(id(4096), false, []pack.Entry{entry(1, -1, 0)}); e != api.ErrMany {
		t.Errorf("4097, out of bounds: %d", e)
	}
	if e := x.Put(id(7), false, nil); e != api.ErrTwice {
		t.Errorf("twice, of 4096: %d", e)
	}
	if x.Len() != 4096 || !bytes.Equal(x.Encode(), b) {
		t.Error("an error turned something")
	}
	if y, e := index.Decode(b); e != api.OK || y.Len() != 4096 || !bytes.Equal(y.Encode(), b) {
		t.Errorf("4096 decoded: %d", e)
	}
	if !x.Move(id(7), true) || !x.Drop(id(8)) || x.Put(id(4096), false, nil) != api.OK || x.Len() != 4096 {
		t.Error("behind one that goes there is no room")
	}
	if e := x.Put(id(8), false, nil); e != api.ErrMany {
		t.Errorf("4097 again: %d", e)
	}
}

func TestPutsErrorsInTheirOrder(t *testing.T) {
	x := made(t, row{id(1), false, []pack.Entry{entry(1, 2, 3)}})
	beyond := []pack.Entry{entry(1, -1, 0)}
	for _, c := range []struct {
		id   api.ID
		list []pack.Entry
		want api.Errno
	}{
		{id(1), nil, api.ErrTwice},
		{id(1), beyond, api.ErrTwice},
		{id(1), noughts(4097), api.ErrTwice},
		{id(2), append(noughts(4096), beyond...), api.ErrMany},
		{id(2), append(noughts(4095), beyond...), api.ErrRange},
		{id(2), beyond, api.ErrRange},
	} {
		if e := x.Put(c.id, true, c.list); e != c.want {
			t.Errorf("%d blobs: %d, not %d", len(c.list), e, c.want)
		}
		same(t, x, []row{{id(1), false, []pack.Entry{entry(1, 2, 3)}}})
	}
}

func TestAPlaceIsThatInTheFirstPack(t *testing.T) {
	list := func(n int) []pack.Entry { return []pack.Entry{entry(100+n, 0, n), entry(1, n, 2*n)} }
	rows := []row{{id(4), true, list(4)}, {id(2), true, list(2)}, {id(5), false, list(5)}, {id(3), false, list(3)}, {id(9), false, nil}}
	at := func(n int, cold bool) api.Place { return api.Place{Pack: id(n), Off: n, Len: 2 * n, Cold: cold} }
	x := made(t, rows...)
	asked := func(want api.Place) {
		t.Helper()
		if got, found := x.Find(id(1)); got != want || !found {
			t.Errorf("%v %v, not %v", got, found, want)
		}
	}
	asked(at(3, false))
	x.Move(id(3), true)
	asked(at(5, false))
	x.Move(id(5), true)
	asked(at(2, true))
	x.Drop(id(2))
	asked(at(3, true))
	x.Drop(id(3))
	asked(at(4, true))
	x.Move(id(5), false)
	asked(at(5, false))
	x.Move(id(4), false)
	asked(at(4, false))
	x.Drop(id(4))
	x.Drop(id(5))
	if got, found := x.Find(id(1)); got != (api.Place{}) || found {
		t.Errorf("%v %v of no pack", got, found)
	}
}

// Sums are held against each other from the first byte on, to the last one.
func TestPacksByWhichSumIsLess(t *testing.T) {
	for i := range 32 {
		var less, more api.ID
		less[i], more[i] = 127, 128
		for j := i + 1; j < 32; j++ {
			less[j] = 255
		}
		for _, cold := range []bool{false, true} {
			low, high := row{less, cold, []pack.Entry{entry(1, 1, 1)}}, row{more, cold, []pack.Entry{entry(1, 2, 2)}}
			same(t, made(t, low, high), []row{low, high})
			same(t, made(t, high, low), []row{low, high})
		}
	}
}

func TestAListThatHasABlobTwice(t *testing.T) {
	r := row{id(1), true, []pack.Entry{entry(2, 0, 1), entry(1, 9, 9), entry(1, 3, 4), entry(2, 5, 6), entry(1, 9, 9)}}
	x := made(t, r)
	same(t, x, []row{r})
	if got, _ := x.Find(id(1)); got != (api.Place{Pack: id(1), Off: 9, Len: 9, Cold: true}) {
		t.Errorf("%v", got)
	}
}

// some is a few packs, of few sums, so that these come again.
func some(r *rand.Rand, n int) []pack.Entry {
	var list []pack.Entry
	for range n {
		list = append(list, entry(r.Intn(20), r.Intn(1<<20+1), r.Intn(1<<20+1)))
	}
	return list
}

// at is where a pack stands in a list; below 0: it isn't there.
func at(rows []row, id api.ID) int {
	return slices.IndexFunc(rows, func(r row) bool { return r.id == id })
}

// P13.1: in every order of calls.
func TestManyOrders(t *testing.T) {
	r := rand.New(rand.NewSource(1))
	for range 100 {
		var x index.Index
		var rows []row
		for range 60 {
			who, cold := id(r.Intn(12)), r.Intn(2) == 0
			i := at(rows, who)
			switch r.Intn(5) {
			case 0, 1:
				list := some(r, r.Intn(6))
				e := x.Put(who, cold, list)
				if (e == api.OK) != (i < 0) || i >= 0 && e != api.ErrTwice {
					t.Fatalf("Put: %d", e)
				}
				if i < 0 {
					rows = append(rows, row{who, cold, list})
				}
			case 2:
				if x.Drop(who) != (i >= 0) {
					t.Fatal("Drop")
				}
				if i >= 0 {
					rows = slices.Delete(rows, i, i+1)
				}
			case 3:
				if x.Move(who, cold) != (i >= 0) {
					t.Fatal("Move")
				}
				if i >= 0 {
					rows[i].cold = cold
				}
			case 4:
				if list, cold, there := x.Pack(who); i < 0 && (len(list) != 0 || cold || there) {
					t.Fatal("a pack that isn't there")
				}
			}
			same(t, &x, rows)
		}
	}
}

func TestACloneIsAnother(t *testing.T) {
	rows := []row{{id(1), false, []pack.Entry{entry(1, 0, 1)}}, {id(2), true, []pack.Entry{entry(2, 0, 1)}}}
	x := made(t, rows...)
	y := x.Clone()
	same(t, y, rows)
	y.Move(id(1), true)
	y.Drop(id(2))
	y.Put(id(3), false, nil)
	same(t, x, rows)
	other := []row{{id(1), true, rows[0].list}, {id(3), false, nil}}
	same(t, y, other)
	z := y.Clone()
	x.Drop(id(1))
	y.Drop(id(1))
	y.Put(id(1), false, []pack.Entry{entry(7, 7, 7)})
	same(t, z, other)
	same(t, x, rows[1:])
}

func TestListsAreNeitherTurnedNorKept(t *testing.T) {
	given := []pack.Entry{entry(3, 1, 2), entry(1, 3, 4), entry(2, 5, 6), entry(9, 9, 9)}
	memory := slices.Clone(given)
	want := []row{{id(1), false, given[:3]}}
	var x index.Index
	x.Put(id(1), false, memory[:3])
	if !slices.Equal(memory, given) {
		t.Error("what was handed in was turned")
	}
	clear(memory)
	same(t, &x, want)
	y := x.Clone()
	for _, z := range []*index.Index{&x, y} {
		list, _, _ := z.Pack(id(1))
		clear(list[:cap(list)])
		same(t, &x, want)
		same(t, y, want)
	}
	one, _, _ := x.Pack(id(1))
	two, _, _ := x.Pack(id(1))
	clear(one[:cap(one)])
	if !slices.Equal(two, given[:3]) {
		t.Error("two answers share memory")
	}
}

func TestAllIsGoneThroughAgainAndStopped(t *testing.T) {
	rows := []row{{id(1), true, noughts(3)}, {id(2), false, noughts(5)}, {id(4), false, nil}}
	x := made(t, rows...)
	packs, all := x.Packs(), x.Blobs()
	for stop := range len(rows) {
		n := 0
		for got, cold := range packs {
			if got != rows[n].id || cold != rows[n].cold {
				t.Errorf("pack %d: %x %v", n, got, cold)
			}
			for range packs {
				break
			}
			if n == stop {
				break
			}
			n++
		}
	}
	for stop := range 5 {
		n := 0
		for got := range all {
			if got != id(n) {
				t.Errorf("blob %d: %x", n, got)
			}
			for range all {
				break
			}
			if n == stop {
				break
			}
			n++
		}
	}
	// What becomes of the index on the way makes no difference.
	n := 0
	for got := range packs {
		x.Move(got, false)
		x.Drop(got)
		x.Put(id(10+n), true, noughts(9))
		n++
	}
	if n != 3 || len(slices.Collect(all)) != 5 {
		t.Errorf("%d packs, %d blobs", n, len(slices.Collect(all)))
	}
	n = 0
	for got, cold := range packs {
		if got != rows[n].id || cold != rows[n].cold {
			t.Errorf("again, pack %d: %x %v", n, got, cold)
		}
		n++
	}
}
