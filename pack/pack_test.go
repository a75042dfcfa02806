package pack_test

import (
	"bytes"
	"crypto/sha256"
	"encoding/binary"
	"encoding/hex"
	"hash/crc32"
	"math/rand"
	"slices"
	"testing"

	"coldstore/api"
	"coldstore/pack"
)

// sealed is a body's bytes, sealed as of a kind.
func sealed(kind byte, body []byte) []byte {
	b := append([]byte{kind}, body...)
	return binary.LittleEndian.AppendUint32(b, crc32.Checksum(b, crc32.MakeTable(crc32.Castagnoli)))
}

// number is a number of four bytes.
func number(n int) []byte {
	return binary.LittleEndian.AppendUint32(nil, uint32(n))
}

// sum is a blob's sum.
func sum(blob []byte) api.ID {
	return api.ID(sha256.Sum256(blob))
}

// rows is a head ahead of being sealed: a number, and each one's sum and how many bytes it has.
func rows(n int, list []pack.Entry) []byte {
	b := number(n)
	for _, e := range list {
		b = append(b, e.ID[:]...)
		b = append(b, number(e.Len)...)
	}
	return b
}

// behind is bytes, with a head behind them, sealed or not, and how many bytes it has.
func behind(b, head []byte) []byte {
	return slices.Concat(b, head, number(len(head)))
}

// entries is where blobs stand, one behind the other.
func entries(blobs [][]byte) []pack.Entry {
	var list []pack.Entry
	off := 0
	for _, blob := range blobs {
		list = append(list, pack.Entry{ID: sum(blob), Off: off, Len: len(blob)})
		off += len(blob)
	}
	return list
}

// packed is a pack's bytes, as the chapter says them.
func packed(blobs [][]byte) []byte {
	return behind(slices.Concat(blobs...), sealed(80, rows(len(blobs), entries(blobs))))
}

// some is so many bytes, the same ones each time.
func some(n int, seed int64) []byte {
	b := make([]byte, n)
	rand.New(rand.NewSource(seed)).Read(b)
	return b
}

// small is so many unlike blobs of some bytes; one has none.
func small(n int) [][]byte {
	var list [][]byte
	for i := range n {
		list = append(list, some(i%40*(i%7), int64(i)))
	}
	return distinct(list)
}

// distinct is blobs, each once.
func distinct(blobs [][]byte) [][]byte {
	had := map[api.ID]int{}
	var list [][]byte
	for _, blob := range blobs {
		if had[sum(blob)]++; had[sum(blob)] == 1 {
			list = append(list, blob)
		}
	}
	return list
}

// numbered is a blob of n bytes that begins with a number.
func numbered(i, n int) []byte {
	b := make([]byte, n)
	copy(b, number(i))
	return b
}

// added tells what Add must answer, and what a builder is behind it.
func added(t *testing.T, b *pack.Builder, blob []byte, want api.Errno) {
	t.Helper()
	n, size := b.Len(), b.Size()
	e, wrong := b.Add(blob)
	if wrong != want {
		t.Fatalf("blob %d, of %d bytes: %d, not %d", n, len(blob), wrong, want)
	}
	if want != api.OK {
		if e != (pack.Entry{}) || b.Len() != n || b.Size() != size {
			t.Fatalf("%v, and %d blobs of %d, %d bytes of %d, behind error %d", e, b.Len(), n, b.Size(), size, want)
		}
		return
	}
	off := size - 13 - 36*n
	if e != (pack.Entry{ID: sum(blob), Off: off, Len: len(blob)}) || b.Len() != n+1 || b.Size() != size+len(blob)+36 {
		t.Fatalf("%v, not at %d; %d blobs, %d bytes", e, off, b.Len(), b.Size())
	}
}

// built is a builder of blobs.
func built(t *testing.T, blobs [][]byte) *pack.Builder {
	t.Helper()
	b := new(pack.Builder)
	for _, blob := range blobs {
		added(t, b, blob, api.OK)
	}
	return b
}

func TestNoBlobs(t *testing.T) {
	var b pack.Builder
	done := b.Done()
	if b.Len() != 0 || b.Size() != 13 || len(done) != 13 || !bytes.Equal(done, packed(nil)) {
		t.Errorf("%d %d %x", b.Len(), b.Size(), done)
	}
	if list, e := pack.Read(done); e != api.OK || len(list) != 0 {
		t.Errorf("%v %d", list, e)
	}
	for e := range pack.All(done) {
		t.Errorf("%v", e)
	}
	if want := "P\x00\x00\x00\x00"; string(done[:5]) != want || string(done[9:]) != "\x09\x00\x00\x00" {
		t.Errorf("%q", done)
	}
}

func TestKnownBytes(t *testing.T) {
	b := built(t, [][]byte{[]byte("abc"), nil, []byte("de")})
	abc, none, de := sum([]byte("abc")), sum(nil), sum([]byte("de"))
	want := "abcde" + "P\x03\x00\x00\x00" +
		string(abc[:]) + "\x03\x00\x00\x00" + string(none[:]) + "\x00\x00\x00\x00" + string(de[:]) + "\x02\x00\x00\x00"
	done := b.Done()
	if string(done[:len(done)-8]) != want || string(done[len(done)-4:]) != "\x75\x00\x00\x00" {
		t.Errorf("%q", done)
	}
}

func TestBuiltAsTheChapterSays(t *testing.T) {
	for n := range 60 {
		blobs := small(n)
		b := built(t, blobs)
		done := b.Done()
		if b.Size() != len(done) || b.Len() != len(blobs) || !bytes.Equal(done, packed(blobs)) || !bytes.Equal(done, b.Done()) {
			t.Errorf("%d blobs: %d bytes, not %d", b.Len(), len(done), b.Size())
		}
	}
}

func TestMoreIsAddedBehindDone(t *testing.T) {
	blobs := small(30)
	var b pack.Builder
	for i, blob := range blobs {
		added(t, &b, blob, api.OK)
		if !bytes.Equal(b.Done(), packed(blobs[:i+1])) {
			t.Fatalf("%d blobs", i+1)
		}
	}
}

func TestAddOfLong(t *testing.T) {
	var b pack.Builder
	added(t, &b, some(1<<16+1, 1), api.ErrLong)
	added(t, &b, some(1<<20, 1), api.ErrLong)
	added(t, &b, some(1<<16, 1), api.OK)
	added(t, &b, some(1<<16-1, 1), api.OK)
	added(t, &b, some(1<<16+1, 1), api.ErrLong)
}

func TestAddOfTwice(t *testing.T) {
	blobs := small(40)
	b := built(t, blobs)
	for _, blob := range blobs {
		added(t, b, blob, api.ErrTwice)
	}
	added(t, b, []byte("another one"), api.OK)
	added(t, b, []byte("another one"), api.ErrTwice)
	var other pack.Builder
	added(t, &other, []byte("another one"), api.OK)
	added(t, &other, nil, api.OK)
	added(t, &other, []byte{}, api.ErrTwice)
	added(t, &other, []byte{0}, api.OK)
}

func TestAddOfMany(t *testing.T) {
	var b pack.Builder
	for i := range 4096 {
		added(t, &b, number(i), api.OK)
	}
	added(t, &b, number(4096), api.ErrMany)
	added(t, &b, nil, api.ErrMany)
	list, e := pack.Read(b.Done())
	if len(list) != 4096 || e != api.OK || b.Size() != 13+4096*40 {
		t.Errorf("%d %d", len(list), e)
	}
	// The first error holds.
	added(t, &b, some(1<<16+1, 1), api.ErrLong)
	added(t, &b, number(7), api.ErrMany)
	// There wouldn't be room for it either.
	added(t, &b, some(1<<16, 1), api.ErrMany)
}

// nearlyFull is a builder with room for a blob of so many bytes, and no more.
func nearlyFull(t *testing.T, room int) *pack.Builder {
	t.Helper()
	b := new(pack.Builder)
	for i := range 15 {
		added(t, b, numbered(i, 1<<16), api.OK)
	}
	added(t, b, numbered(15, 1<<20-b.Size()-36-36-room), api.OK)
	return b
}

func TestAddOfFull(t *testing.T) {
	for _, room := range []int{0, 1, 2, 1000} {
		b := nearlyFull(t, room)
		if room > 0 {
			added(t, b, some(1<<16, 1), api.ErrFull)
		}
		added(t, b, some(room+1, 1), api.ErrFull)
		added(t, b, some(1<<16+1, 1), api.ErrLong)
		added(t, b, numbered(3, 1<<16), api.ErrTwice)
		added(t, b, some(room, 1), api.OK)
		done := b.Done()
		if len(done) != 1<<20 || b.Size() != 1<<20 {
			t.Errorf("room for %d: %d bytes", room, len(done))
		}
		if list, e := pack.Read(done); len(list) != 17 || e != api.OK {
			t.Errorf("room for %d: %d %d", room, len(list), e)
		}
		added(t, b, []byte{9}, api.ErrFull)
		// What is there is there, with room or not.
		added(t, b, some(room, 1), api.ErrTwice)
	}
	// What had no room is none that is there.
	b := nearlyFull(t, 5)
	added(t, b, []byte("123456"), api.ErrFull)
	added(t, b, []byte("123456"), api.ErrFull)
	added(t, b, []byte("12345"), api.OK)
}

func TestManyBuilders(t *testing.T) {
	r := rand.New(rand.NewSource(4))
	for range 300 {
		var b pack.Builder
		var had [][]byte
		for range r.Intn(60) {
			blob := some(r.Intn(4)*r.Intn(200), int64(r.Intn(8)))
			want := api.OK
			if slices.ContainsFunc(had, func(x []byte) bool { return bytes.Equal(x, blob) }) {
				want = api.ErrTwice
			} else {
				had = append(had, blob)
			}
			added(t, &b, blob, want)
		}
		done := b.Done()
		if !bytes.Equal(done, packed(had)) {
			t.Fatalf("%d blobs", len(had))
		}
		if list, e := pack.Read(done); e != api.OK || !slices.Equal(list, entries(had)) {
			t.Fatalf("%d of %d, %d", len(list), len(had), e)
		}
	}
}

func TestBlobsAreNeitherTurnedNorKept(t *testing.T) {
	memory := some(100, 1)
	given := slices.Clone(memory)
	var b pack.Builder
	b.Add(memory[:50])
	b.Add(memory[50:60])
	if !bytes.Equal(memory, given) {
		t.Error("what was handed in was turned")
	}
	clear(memory)
	want := packed([][]byte{given[:50], given[50:60]})
	done := b.Done()
	if !bytes.Equal(done, want) {
		t.Error("what was handed in was kept")
	}
	clear(done[:cap(done)])
	if !bytes.Equal(b.Done(), want) {
		t.Error("a pack's bytes share memory with the builder")
	}
	b.Add([]byte("abc"))
	if !bytes.Equal(done, make([]byte, len(done))) {
		t.Error("what is added stands in bytes that were answered")
	}
}

func TestName(t *testing.T) {
	for n := range 200 {
		b := some(n, 1)
		id := sum(b)
		if got := pack.Name(b); got != "pack/"+hex.EncodeToString(id[:]) {
			t.Errorf("%d bytes: %s", n, got)
		}
	}
	if got := pack.Name(nil); got != "pack/e3b0c44298fc1c149afbf4c8996fb92427ae41e4649b934ca495991b7852b855" || got != pack.Name([]byte{}) {
		t.Errorf("no bytes: %s", got)
	}
}
