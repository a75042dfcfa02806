package tree_test

import (
	"bytes"
	"encoding/binary"
	"hash/crc32"
	"math"
	"math/rand"
	"slices"
	"strings"
	"testing"

	"coldstore/api"
	"coldstore/tree"
)

// sealed is a body's bytes, sealed as of a kind.
func sealed(kind byte, body []byte) []byte {
	b := append([]byte{kind}, body...)
	return binary.LittleEndian.AppendUint32(b, crc32.Checksum(b, crc32.MakeTable(crc32.Castagnoli)))
}

// count is a number of four bytes.
func count(n int) []byte {
	return binary.LittleEndian.AppendUint32(nil, uint32(n))
}

// field is a node's bytes, with a mark, and what there is behind the name.
func field(mark byte, name string, behind ...[]byte) []byte {
	return slices.Concat([]byte{mark}, count(len(name)), []byte(name), slices.Concat(behind...))
}

// sums is the bytes of sums.
func sums(list []api.ID) []byte {
	var b []byte
	for _, sum := range list {
		b = append(b, sum[:]...)
	}
	return b
}

// body is a list's bytes, as the chapter says them, ahead of being sealed; the list may be wrong.
func body(list []tree.Node) []byte {
	b := count(len(list))
	for _, n := range list {
		if n.Dir {
			b = append(b, field(1, n.Name, n.Sub[:])...)
		} else {
			size := binary.LittleEndian.AppendUint64(nil, uint64(n.Size))
			b = append(b, field(0, n.Name, size, count(len(n.Parts)), sums(n.Parts))...)
		}
	}
	return b
}

// encoded is the bytes of a list that must be right.
func encoded(t *testing.T, list []tree.Node) []byte {
	t.Helper()
	b, e := tree.Encode(list)
	if e != api.OK {
		t.Fatalf("%d nodes: %d", len(list), e)
	}
	return b
}

// refused tells what must be answered by Decode, if bytes are refused.
func refused(t *testing.T, b []byte, want api.Errno) {
	t.Helper()
	if list, e := tree.Decode(b); e != want || len(list) != 0 {
		t.Errorf("%.60x: %v %d, not %d", b, list, e, want)
	}
}

func TestKnownBytes(t *testing.T) {
	none := encoded(t, nil)
	if len(none) != 9 || string(none[:5]) != "T\x00\x00\x00\x00" || !bytes.Equal(none, encoded(t, []tree.Node{})) {
		t.Errorf("of no nodes: %x", none)
	}
	list := []tree.Node{
		{Name: "ab", Size: 258, Parts: []api.ID{{1, 31: 2}, {3, 31: 4}}},
		{Name: "b", Dir: true, Sub: api.ID{5, 31: 6}},
	}
	nought := strings.Repeat("\x00", 30)
	want := "T\x02\x00\x00\x00" +
		"\x00\x02\x00\x00\x00ab\x02\x01\x00\x00\x00\x00\x00\x00\x02\x00\x00\x00\x01" + nought + "\x02\x03" + nought + "\x04" +
		"\x01\x01\x00\x00\x00b\x05" + nought + "\x06"
	got := encoded(t, list)
	if string(got[:len(got)-4]) != want || !bytes.Equal(got, sealed(84, []byte(want[1:]))) {
		t.Errorf("%q", got)
	}
}

func TestEncodedAsTheChapterSaysAndDecoded(t *testing.T) {
	lists := [][]tree.Node{
		nil,
		{file("a")},
		{{Name: "a", Size: math.MaxInt64, Parts: []api.ID{{}}}},
		{{Name: strings.Repeat("z", 40), Dir: true}},
		{{Name: "a", Parts: ids(4096, 0)}, {Name: "b", Dir: true, Sub: id(300)}, {Name: "c", Size: 1 << 40}},
		some(511),
		some(512),
	}
	for n := range 50 {
		lists = append(lists, some(n))
	}
	for _, list := range lists {
		b := encoded(t, list)
		if !bytes.Equal(b, sealed(84, body(list))) {
			t.Errorf("%d nodes: %.100x", len(list), b)
		}
		if got, e := tree.Decode(b); e != api.OK || !same(got, list) {
			t.Errorf("%d nodes: %d nodes, %d", len(list), len(got), e)
		}
	}
}

func TestManyLists(t *testing.T) {
	r := rand.New(rand.NewSource(3))
	for range 20000 {
		list := randomly(r)
		b := sealed(84, body(list))
		if wrong(list) == api.OK {
			if got, e := tree.Decode(b); e != api.OK || !same(got, list) || !bytes.Equal(encoded(t, got), b) {
				t.Fatalf("%v: %v %d", list, got, e)
			}
			continue
		}
		// Of a directory with a Size, or Parts, and of a file with a Sub, the bytes have no place for these.
		if e := wrong(list); e != api.ErrForm {
			refused(t, b, api.ErrForm)
		}
	}
}

func TestDecodeOfWhatIsNotWhole(t *testing.T) {
	b := encoded(t, some(3))
	refused(t, nil, api.ErrShort)
	for n := range b {
		want := api.ErrSum
		if n < 5 {
			want = api.ErrShort
		}
		refused(t, b[:n], want)
	}
	for i := range 8 * len(b) {
		turned := slices.Clone(b)
		turned[i/8] ^= 1 << (i % 8)
		refused(t, turned, api.ErrSum)
	}
	refused(t, append(slices.Clone(b), 0), api.ErrSum)
	refused(t, make([]byte, 9), api.ErrSum)
	// Another kind is layer 4's to refuse, whatever stands within.
	for kind := range 256 {
		if kind != 84 {
			refused(t, sealed(byte(kind), body(some(3))), api.ErrForm)
		}
	}
}

func TestDecodeOfNoListsBytes(t *testing.T) {
	size, long := make([]byte, 8), strings.Repeat("z", 41)
	good := field(0, "a", size, count(0))
	if list, e := tree.Decode(sealed(84, slices.Concat(count(1), good))); e != api.OK || !same(list, []tree.Node{file("a")}) {
		t.Fatalf("%v %d", list, e)
	}
	below := binary.LittleEndian.AppendUint64(nil, math.MaxUint64)
	least := binary.LittleEndian.AppendUint64(nil, 1<<63)
	for i, b := range [][]byte{
		nil,
		{0},
		{0, 0, 0},
		{0, 0, 0, 0, 0},
		slices.Concat(count(0), good),
		slices.Concat(count(2), good),
		slices.Concat(count(1), good, good),
		slices.Concat(count(1), good, []byte{0}),
		slices.Concat(count(2), good, good),
		slices.Concat(count(math.MaxUint32), good),
		count(1),
		count(513),
		count(math.MaxUint32),
		slices.Concat(count(1), field(2, "a", size, count(0))),
		slices.Concat(count(1), field(255, "a", size, count(0))),
		slices.Concat(count(1), field(2, "a", make([]byte, 32))),
		slices.Concat(count(1), field(2, "a")),
		slices.Concat(count(1), field(1, "a", size, count(0))),
		slices.Concat(count(1), field(0, "a", make([]byte, 32))),
		slices.Concat(count(1), field(1, "a", make([]byte, 31))),
		slices.Concat(count(1), field(1, "a", make([]byte, 33))),
		slices.Concat(count(1), field(0, "a", below, count(0))),
		slices.Concat(count(1), field(0, "a", least, count(0))),
		slices.Concat(count(1), field(0, "a", size, count(1))),
		slices.Concat(count(1), field(0, "a", size, count(1), make([]byte, 31))),
		slices.Concat(count(1), field(0, "a", size, count(0), make([]byte, 32))),
		slices.Concat(count(1), field(0, "a", size, count(math.MaxUint32))),
		slices.Concat(count(1), field(0, "a", size, count(4097), make([]byte, 32*4097))),
		slices.Concat(count(1), field(0, "", size, count(0))),
		slices.Concat(count(1), field(0, "a/b", size, count(0))),
		slices.Concat(count(1), field(0, "..", size, count(0))),
		slices.Concat(count(1), field(0, "a\x00", size, count(0))),
		slices.Concat(count(1), field(0, long, size, count(0))),
		slices.Concat(count(1), field(1, long, make([]byte, 32))),
		slices.Concat(count(1), field(1, strings.Repeat(long, 9), make([]byte, 32))),
		slices.Concat(count(1), []byte{0}, count(math.MaxUint32), []byte("a")),
		slices.Concat(count(2), field(0, "b", size, count(0)), good),
	} {
		if refused(t, sealed(84, b), api.ErrForm); t.Failed() {
			t.Fatalf("case %d", i)
		}
	}
	refused(t, sealed(84, body(some(513))), api.ErrForm)
	// A body that ends within something, wherever that is.
	whole := body(some(4))
	for n := range whole {
		refused(t, sealed(84, whole[:n]), api.ErrForm)
	}
}

func TestWhatIsDecodedIsTheseBytesAgain(t *testing.T) {
	r := rand.New(rand.NewSource(1))
	taken := 0
	for range 60000 {
		whole := body(some(1 + r.Intn(4)))
		for range 1 + r.Intn(2) {
			whole[r.Intn(len(whole))] = []byte{0, 1, 2, 3, 'a', 'n', 'z', '.', 128, 255}[r.Intn(10)]
		}
		b := sealed(84, whole)
		list, e := tree.Decode(b)
		if e != api.OK {
			if e != api.ErrForm || len(list) != 0 {
				t.Fatalf("%x: %v %d", b, list, e)
			}
			continue
		}
		taken++
		if !bytes.Equal(encoded(t, list), b) {
			t.Fatalf("%x: %v", b, list)
		}
	}
	if taken < 10000 || taken > 59000 {
		t.Errorf("%d were taken", taken)
	}
}

func TestBytesAreTheCallersOwn(t *testing.T) {
	list := some(9)
	b := encoded(t, list)
	again := encoded(t, list)
	if !same(list, some(9)) {
		t.Error("the list was turned")
	}
	for i := range list {
		clear(list[i].Parts)
	}
	if !bytes.Equal(b, sealed(84, body(some(9)))) {
		t.Error("what was handed in was kept by Encode")
	}
	clear(b[:cap(b)])
	memory := append(slices.Clone(again), "behind"...)
	one, _ := tree.Decode(memory[:len(again)])
	two, _ := tree.Decode(memory[:len(again)])
	if string(memory) != string(again)+"behind" {
		t.Error("the bytes were turned")
	}
	clear(memory)
	if !same(one, some(9)) {
		t.Error("what was handed in was kept by Decode")
	}
	for i := range one {
		if !sameNode(one[i], some(9)[i]) {
			t.Fatalf("node %d shares memory with one ahead", i)
		}
		room := one[i].Parts[:cap(one[i].Parts)]
		for k := range room {
			room[k] = api.ID{9, 9, 9}
		}
	}
	if !same(two, some(9)) {
		t.Error("two answers share memory")
	}
}
