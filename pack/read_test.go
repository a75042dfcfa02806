package pack_test

import (
	"bytes"
	"math"
	"math/rand"
	"slices"
	"testing"

	"coldstore/api"
	"coldstore/pack"
)

// refused tells what must be answered, if bytes are no pack's.
func refused(t *testing.T, b []byte, want api.Errno) {
	t.Helper()
	if list, e := pack.Read(b); e != want || len(list) != 0 {
		t.Errorf("%d bytes: %d blobs, %d, not %d", len(b), len(list), e, want)
	}
	for e := range pack.All(b) {
		t.Errorf("%d bytes, that are no pack's: %v", len(b), e)
	}
}

// read tells what must be answered, if bytes are a pack's.
func read(t *testing.T, b []byte, want []pack.Entry) {
	t.Helper()
	if list, e := pack.Read(b); e != api.OK || !slices.Equal(list, want) {
		t.Errorf("%d bytes: %d blobs of %d, %d", len(b), len(list), len(want), e)
	}
}

func TestReadAsTheChapterSays(t *testing.T) {
	for n := range 60 {
		blobs := small(n)
		read(t, packed(blobs), entries(blobs))
	}
	read(t, packed([][]byte{some(1<<16, 1), some(1<<16, 2)}), entries([][]byte{some(1<<16, 1), some(1<<16, 2)}))
}

func TestReadDoesntAskForSums(t *testing.T) {
	list := []pack.Entry{{ID: api.ID{1}, Len: 2}, {ID: api.ID{}, Off: 2, Len: 0}, {ID: api.ID{2}, Off: 2, Len: 1}}
	b := behind([]byte("abc"), sealed(80, rows(3, list)))
	read(t, b, list)
	for e := range pack.All(b) {
		t.Errorf("%v", e)
	}
}

func TestReadOfWhatIsCut(t *testing.T) {
	b := packed([][]byte{[]byte("abc"), []byte("de")})
	refused(t, nil, api.ErrShort)
	for n := range 4 {
		refused(t, make([]byte, n), api.ErrShort)
		refused(t, b[:n], api.ErrShort)
		refused(t, b[len(b)-n:], api.ErrShort)
	}
	// Only the blobs are missing, or some of the head, too.
	for n := 4; n < len(b); n++ {
		want := api.ErrForm
		if n < len(b)-5 {
			want = api.ErrShort
		}
		refused(t, b[len(b)-n:], want)
	}
}

func TestReadOfHeadsLengths(t *testing.T) {
	head := sealed(80, rows(0, nil))
	read(t, behind(nil, head), nil)
	for _, c := range []struct {
		length int
		want   api.Errno
	}{
		{0, api.ErrShort},
		{1, api.ErrShort},
		{4, api.ErrShort},
		{5, api.ErrSum},
		{8, api.ErrSum},
		{10, api.ErrShort},
		{11, api.ErrShort},
		{13, api.ErrShort},
		{1 << 31, api.ErrShort},
		{math.MaxUint32, api.ErrShort},
	} {
		refused(t, append(slices.Clone(head), number(c.length)...), c.want)
	}
	// With bytes ahead of it, that the head doesn't tell of.
	refused(t, slices.Concat([]byte("x"), head, number(9)), api.ErrForm)
	refused(t, slices.Concat([]byte("x"), head, number(10)), api.ErrSum)
	refused(t, slices.Concat([]byte("x"), head, number(11)), api.ErrShort)
	// Noughts: a head of no bytes.
	refused(t, make([]byte, 4), api.ErrShort)
	refused(t, make([]byte, 100), api.ErrShort)
}

func TestReadOfATurnedHead(t *testing.T) {
	blobs := [][]byte{[]byte("abc"), []byte("de")}
	b := packed(blobs)
	for i := range 8 * (len(b) - 4) {
		turned := slices.Clone(b)
		turned[i/8] ^= 1 << (i % 8)
		if i/8 < 5 {
			read(t, turned, entries(blobs))
		} else {
			refused(t, turned, api.ErrSum)
		}
	}
	refused(t, append(slices.Clone(b), 0), api.ErrShort)
	// Another kind is layer 4's to refuse, whatever stands within.
	for kind := range 256 {
		if kind != 80 {
			refused(t, behind([]byte("abcde"), sealed(byte(kind), rows(2, entries(blobs)))), api.ErrForm)
		}
	}
}

func TestReadOfNoPacksBytes(t *testing.T) {
	blobs := [][]byte{[]byte("abc"), []byte("de")}
	list := entries(blobs)
	read(t, behind([]byte("abcde"), sealed(80, rows(2, list))), list)
	long := []pack.Entry{{ID: api.ID{1}, Len: 1<<16 + 1}}
	huge := []pack.Entry{{ID: api.ID{1}, Len: math.MaxUint32}}
	// Without its last one the head would tell of as many bytes as there are.
	fits := []pack.Entry{{ID: api.ID{1}, Len: 40}, {ID: api.ID{1}, Len: 0}}
	twice := []pack.Entry{{ID: api.ID{1}, Len: 2}, {ID: api.ID{2}, Len: 1}, {ID: api.ID{1}, Len: 2}}
	for i, b := range [][]byte{
		behind([]byte("abcd"), sealed(80, rows(2, list))),
		behind([]byte("abcdef"), sealed(80, rows(2, list))),
		behind(nil, sealed(80, rows(2, list))),
		behind([]byte("abc"), sealed(80, rows(2, list[:1]))),
		behind([]byte("abcde"), sealed(80, rows(1, list))),
		behind([]byte("abc"), sealed(80, rows(1, list))),
		behind([]byte("abcde"), sealed(80, rows(3, list))),
		behind([]byte("abcde"), sealed(80, rows(0, list))),
		behind(nil, sealed(80, rows(0, list))),
		behind([]byte("abcde"), sealed(80, rows(math.MaxUint32, list))),
		behind(nil, sealed(80, rows(1, nil))),
		behind(nil, sealed(80, rows(4097, nil))),
		behind(nil, sealed(80, rows(math.MaxUint32, nil))),
		behind([]byte("abcde"), sealed(80, append(rows(2, list), 0))),
		behind([]byte("abcde"), sealed(80, rows(2, list)[1:])),
		behind([]byte("abcde"), sealed(80, rows(2, list)[:75])),
		behind([]byte("abc"), sealed(80, rows(2, list)[:72])),
		behind(nil, sealed(80, nil)),
		behind(nil, sealed(80, []byte{0})),
		behind(nil, sealed(80, []byte{0, 0, 0})),
		behind(nil, sealed(80, []byte{0, 0, 0, 0, 0})),
		behind(make([]byte, 1<<16+1), sealed(80, rows(1, long))),
		behind(nil, sealed(80, rows(1, huge))),
		behind([]byte("abcde"), sealed(80, rows(3, twice))),
		behind([]byte("abcd"), sealed(80, rows(2, fits))),
	} {
		t.Logf("case %d", i)
		refused(t, b, api.ErrForm)
	}
}

// noughts is so many blobs, of so many bytes each, whose sums are unlike.
func noughts(n, length int) []pack.Entry {
	var list []pack.Entry
	for i := range n {
		list = append(list, pack.Entry{ID: api.ID(append(number(i), make([]byte, 28)...)), Off: i * length, Len: length})
	}
	return list
}

func TestReadOfPacksThatNobodyBuilds(t *testing.T) {
	for _, c := range []struct {
		n, length int
		right     bool
	}{
		{1, 1 << 16, true},
		{1, 1<<16 + 1, false},
		{4096, 0, true},
		{4097, 0, false},
		{15, 1 << 16, true},
		{16, 1 << 16, false},
		{17, 61644, true},
		{17, 61645, false},
	} {
		list := noughts(c.n, c.length)
		b := behind(make([]byte, c.n*c.length), sealed(80, rows(c.n, list)))
		if c.right {
			read(t, b, list)
		} else {
			refused(t, b, api.ErrForm)
		}
	}
	// 2^20 bytes, and one more, each made of blobs that may be.
	for _, more := range []int{0, 1} {
		list := noughts(17, 61644)
		last := 1<<20 - 13 - 17*36 - 16*61644 + more
		list[16].Len = last
		b := behind(make([]byte, 16*61644+last), sealed(80, rows(17, list)))
		if len(b) != 1<<20+more {
			t.Fatalf("%d bytes", len(b))
		}
		if more == 0 {
			read(t, b, list)
		} else {
			refused(t, b, api.ErrForm)
		}
	}
}

func TestManyHeads(t *testing.T) {
	r := rand.New(rand.NewSource(5))
	rights := 0
	for range 20000 {
		var list []pack.Entry
		sums := map[api.ID]int{}
		off := 0
		for range r.Intn(5) {
			e := pack.Entry{ID: api.ID{byte(r.Intn(20))}, Off: off, Len: r.Intn(3)}
			sums[e.ID]++
			off += e.Len
			list = append(list, e)
		}
		n, length := len(list)+r.Intn(5)/4, off+r.Intn(5)/4
		b := behind(make([]byte, length), sealed(80, rows(n, list)))
		if n == len(list) && length == off && len(sums) == len(list) {
			rights++
			read(t, b, list)
		} else {
			refused(t, b, api.ErrForm)
		}
	}
	if rights == 0 {
		t.Error("none was right")
	}
}

func TestBlob(t *testing.T) {
	blobs := small(30)
	b := packed(blobs)
	for i, e := range entries(blobs) {
		if blob, wrong := pack.Blob(b, e); wrong != api.OK || !bytes.Equal(blob, blobs[i]) {
			t.Errorf("blob %d: %x %d", i, blob, wrong)
		}
	}
	// Any bytes are asked, whether they are a pack's or not.
	whole := some(1<<17, 1)
	for _, n := range []int{0, 1, 100, 1 << 16, 1<<16 + 1, 1 << 17} {
		for _, off := range []int{0, 1, 1<<17 - n} {
			if off+n > len(whole) {
				continue
			}
			want := whole[off : off+n]
			if blob, wrong := pack.Blob(whole, pack.Entry{ID: sum(want), Off: off, Len: n}); wrong != api.OK || !bytes.Equal(blob, want) {
				t.Errorf("%d bytes from %d on: %d", n, off, wrong)
			}
		}
	}
	if blob, wrong := pack.Blob(nil, pack.Entry{ID: sum(nil)}); wrong != api.OK || len(blob) != 0 {
		t.Errorf("no bytes of no bytes: %d", wrong)
	}
}

func TestBlobThatIsWrong(t *testing.T) {
	b := packed([][]byte{[]byte("abc"), []byte("de")})
	abc, none := sum([]byte("abc")), sum(nil)
	for _, c := range []struct {
		e    pack.Entry
		want api.Errno
	}{
		{pack.Entry{ID: abc, Off: 0, Len: 2}, api.ErrHash},
		{pack.Entry{ID: abc, Off: 1, Len: 3}, api.ErrHash},
		{pack.Entry{ID: api.ID{}, Off: 0, Len: 3}, api.ErrHash},
		{pack.Entry{ID: none, Off: 0, Len: 3}, api.ErrHash},
		{pack.Entry{ID: abc, Off: 0, Len: 0}, api.ErrHash},
		{pack.Entry{ID: abc, Off: 0, Len: len(b)}, api.ErrHash},
		{pack.Entry{ID: abc, Off: len(b), Len: 0}, api.ErrHash},
		{pack.Entry{ID: none, Off: len(b), Len: 0}, api.OK},
		{pack.Entry{ID: none, Off: len(b) + 1, Len: 0}, api.ErrRange},
		{pack.Entry{ID: none, Off: -1, Len: 0}, api.ErrRange},
		{pack.Entry{ID: abc, Off: -1, Len: 3}, api.ErrRange},
		{pack.Entry{ID: abc, Off: 3, Len: -3}, api.ErrRange},
		{pack.Entry{ID: none, Off: 3, Len: -1}, api.ErrRange},
		{pack.Entry{ID: abc, Off: 0, Len: len(b) + 1}, api.ErrRange},
		{pack.Entry{ID: abc, Off: 1, Len: len(b)}, api.ErrRange},
		{pack.Entry{ID: abc, Off: len(b), Len: 1}, api.ErrRange},
		{pack.Entry{ID: abc, Off: math.MaxInt, Len: math.MaxInt}, api.ErrRange},
		{pack.Entry{ID: abc, Off: math.MaxInt, Len: 1}, api.ErrRange},
		{pack.Entry{ID: abc, Off: 1, Len: math.MaxInt}, api.ErrRange},
		{pack.Entry{ID: abc, Off: math.MinInt, Len: math.MinInt}, api.ErrRange},
		{pack.Entry{ID: abc, Off: math.MinInt, Len: 3}, api.ErrRange},
		{pack.Entry{ID: abc, Off: 3, Len: math.MinInt}, api.ErrRange},
		{pack.Entry{ID: abc, Off: math.MaxInt, Len: math.MinInt}, api.ErrRange},
		{pack.Entry{ID: abc, Off: math.MinInt, Len: math.MaxInt}, api.ErrRange},
	} {
		if blob, wrong := pack.Blob(b, c.e); wrong != c.want || len(blob) != 0 {
			t.Errorf("from %d on, %d: %x %d, not %d", c.e.Off, c.e.Len, blob, wrong, c.want)
		}
	}
	if blob, wrong := pack.Blob(nil, pack.Entry{ID: sum([]byte("a")), Len: 1}); wrong != api.ErrRange || len(blob) != 0 {
		t.Errorf("a byte of no bytes: %d", wrong)
	}
}

// gone is what All goes through.
func gone(b []byte) ([]pack.Entry, [][]byte) {
	var list []pack.Entry
	var blobs [][]byte
	for e, blob := range pack.All(b) {
		list = append(list, e)
		blobs = append(blobs, blob)
	}
	return list, blobs
}

// alike tells whether blobs are the same ones.
func alike(a, b [][]byte) bool {
	return slices.EqualFunc(a, b, bytes.Equal)
}

func TestAll(t *testing.T) {
	for n := range 60 {
		blobs := small(n)
		list, got := gone(packed(blobs))
		if !slices.Equal(list, entries(blobs)) || !alike(got, blobs) {
			t.Errorf("%d blobs of %d", len(list), len(blobs))
		}
	}
}

func TestAllLeavesWrongOnesOut(t *testing.T) {
	blobs := [][]byte{[]byte("abc"), []byte("de"), nil, []byte("fghi")}
	list := entries(blobs)
	b := packed(blobs)
	for i, out := range []int{0, 0, 0, 1, 1, 3, 3, 3, 3} {
		turned := slices.Clone(b)
		turned[i] ^= 1
		got, _ := gone(turned)
		if want := slices.Delete(slices.Clone(list), out, out+1); !slices.Equal(got, want) {
			t.Errorf("byte %d turned: %d blobs", i, len(got))
		}
	}
	all := slices.Clone(b)
	clear(all[:9])
	if got, _ := gone(all); !slices.Equal(got, list[2:3]) {
		t.Errorf("all turned: %d blobs", len(got))
	}
}

func TestAllIsGoneThroughAgainAndStopped(t *testing.T) {
	blobs := distinct([][]byte{[]byte("a"), []byte("bc"), nil, []byte("def")})
	all := pack.All(packed(blobs))
	for stop := range len(blobs) {
		n := 0
		for e, blob := range all {
			if e.ID != sum(blobs[n]) || !bytes.Equal(blob, blobs[n]) {
				t.Errorf("blob %d: %q", n, blob)
			}
			clear(blob)
			inner := 0
			for range all {
				inner++
			}
			if inner != len(blobs) {
				t.Errorf("within: %d", inner)
			}
			if n == stop {
				break
			}
			n++
		}
		if n != stop {
			t.Errorf("%d, not %d", n, stop)
		}
	}
}

func TestAPacksBytesAreNeitherTurnedNorKept(t *testing.T) {
	blobs := [][]byte{[]byte("abc"), []byte("de")}
	memory := append(packed(blobs), "more"...)
	given := slices.Clone(memory)
	b := memory[: len(memory)-4 : len(memory)]
	all := pack.All(b)
	list, _ := pack.Read(b)
	blob, _ := pack.Blob(b, list[0])
	_, got := gone(b)
	pack.Name(b)
	clear(got[0][:cap(got[0])])
	if other := append(blob, "zz"...); !bytes.Equal(memory, given) {
		t.Errorf("what was handed in was turned, or answered: %x", other)
	}
	clear(memory)
	if !slices.Equal(list, entries(blobs)) || string(blob) != "abc" {
		t.Error("what was handed in was kept")
	}
	clear(list)
	n := 0
	for e, blob := range all {
		if e.ID != sum(blobs[n]) || !bytes.Equal(blob, blobs[n]) {
			t.Errorf("%q", blob)
		}
		n++
	}
	if n != 2 {
		t.Errorf("what was handed in was kept: %d blobs", n)
	}
}

// P12.2: a pack that is read has its head at its end.
func TestAPackHasItsHeadAtItsEnd(t *testing.T) {
	blobs := small(20)
	b := packed(blobs)
	for n := range len(b) {
		refusedOrShort(t, b[:n])
	}
	// A pack within a pack's blob doesn't count.
	inner := packed([][]byte{[]byte("x")})
	outer := packed([][]byte{inner, []byte("y")})
	read(t, outer, entries([][]byte{inner, []byte("y")}))
	if _, e := pack.Read(append(slices.Clone(b), inner...)); e != api.ErrForm {
		t.Errorf("two packs, one behind the other: %d", e)
	}
}

// refusedOrShort tells that bytes are no pack's.
func refusedOrShort(t *testing.T, b []byte) {
	t.Helper()
	if list, e := pack.Read(b); e == api.OK || len(list) != 0 {
		t.Errorf("%d bytes: %d blobs, %d", len(b), len(list), e)
	}
}
