package index_test

import (
	"bytes"
	"encoding/binary"
	"math"
	"math/rand"
	"slices"
	"testing"

	"coldstore/api"
	"coldstore/index"
	"coldstore/pack"
)

// two is an index's packs, by their sums.
func two() []row {
	return []row{
		{id(1), true, []pack.Entry{entry(8, 0, 1<<20), entry(7, 1<<20, 0)}},
		{id(2), false, []pack.Entry{entry(9, 258, 3)}},
	}
}

// read tells that bytes are an index's, of packs.
func read(t *testing.T, b []byte, rows []row) {
	t.Helper()
	x, e := index.Decode(b)
	if e != api.OK || x == nil {
		t.Fatalf("%d bytes: %d", len(b), e)
	}
	same(t, x, rows)
	if !bytes.Equal(x.Encode(), b) {
		t.Errorf("%d bytes: other ones, encoded again", len(b))
	}
}

// refused tells what must be answered, if bytes are no index's.
func refused(t *testing.T, b []byte, want api.Errno) {
	t.Helper()
	if x, e := index.Decode(b); x != nil || e != want {
		t.Errorf("%d bytes: %v, %d, not %d", len(b), x, e, want)
	}
}

func TestBytesAsTheChapterSays(t *testing.T) {
	x := made(t, row{api.ID{0: 2}, false, nil}, row{api.ID{31: 1}, true, []pack.Entry{{ID: api.ID{5}, Off: 258, Len: 1 << 20}}})
	want := slices.Concat(
		[]byte{2, 0, 0, 0},
		make([]byte, 31), []byte{1, 1, 1, 0, 0, 0}, []byte{5}, make([]byte, 31), []byte{2, 1, 0, 0, 0, 0, 16, 0},
		[]byte{2}, make([]byte, 31), []byte{0, 0, 0, 0, 0},
	)
	if got := x.Encode(); !bytes.Equal(got, sealed(73, want)) {
		t.Errorf("%x", got)
	}
}

func TestEncodeHangsOnNoOrder(t *testing.T) {
	r := rand.New(rand.NewSource(2))
	var rows []row
	for i := range 50 {
		rows = append(rows, row{id(i), i%2 == 0, some(r, i%5)})
	}
	want := sealed(73, body(50, rows...))
	for range 20 {
		r.Shuffle(len(rows), func(i, j int) { rows[i], rows[j] = rows[j], rows[i] })
		x := made(t, rows...)
		for range 5 {
			if !bytes.Equal(x.Encode(), want) {
				t.Fatal("other bytes")
			}
		}
	}
}

func TestDecodeAsTheChapterSays(t *testing.T) {
	read(t, sealed(73, body(0)), nil)
	read(t, sealed(73, body(2, two()...)), two())
	read(t, sealed(73, body(1, row{api.ID{}, true, nil})), []row{{api.ID{}, true, nil}})
	twice := row{id(1), false, []pack.Entry{entry(1, 0, 0), entry(1, 5, 6), entry(1, 0, 0)}}
	read(t, sealed(73, body(1, twice)), []row{twice})
}

// P13.2: what is encoded is decoded.
func TestWhatIsEncodedIsDecoded(t *testing.T) {
	r := rand.New(rand.NewSource(3))
	for range 200 {
		var rows []row
		for i := range r.Intn(12) {
			if r.Intn(2) == 0 {
				rows = append(rows, row{id(i), r.Intn(2) == 0, some(r, r.Intn(6))})
			}
		}
		read(t, made(t, rows...).Encode(), rows)
	}
}

func TestDecodeOfWhatIsCutOrTurned(t *testing.T) {
	b := sealed(73, body(2, two()...))
	for n := range len(b) {
		want := api.ErrSum
		if n < 5 {
			want = api.ErrShort
		}
		refused(t, b[:n], want)
	}
	refused(t, nil, api.ErrShort)
	for i := range 8 * len(b) {
		turned := slices.Clone(b)
		turned[i/8] ^= 1 << (i % 8)
		refused(t, turned, api.ErrSum)
	}
	for kind := range 256 {
		if kind != 73 {
			refused(t, sealed(byte(kind), body(2, two()...)), api.ErrForm)
		}
	}
}

func TestDecodeOfNoIndexsBytes(t *testing.T) {
	rows := two()
	one := rows[:1]
	list := one[0].list
	whole := body(2, rows...)
	marked := func(mark byte) []byte { return slices.Concat(number(1), packBytes(id(1), mark, 2, list)) }
	counted := func(n int) []byte { return slices.Concat(number(1), packBytes(id(1), 0, n, list)) }
	placed := func(off, length int) []byte { return body(1, row{id(1), false, []pack.Entry{entry(1, off, length)}}) }
	read(t, sealed(73, marked(0)), []row{{id(1), false, list}})
	read(t, sealed(73, marked(1)), one)
	read(t, sealed(73, counted(2)), []row{{id(1), false, list}})
	for i, b := range [][]byte{
		nil, {0}, {0, 0, 0}, {0, 0, 0, 0, 0},
		body(1), body(1, rows...), body(3, rows...), body(0, one...), body(2, one...),
		body(math.MaxUint32), body(math.MaxUint32, rows...),
		append(slices.Clone(whole), 0), whole[:len(whole)-1], whole[1:],
		body(2, rows[1], rows[0]),
		body(2, rows[0], rows[0]),
		body(2, rows[0], row{rows[0].id, false, nil}),
		body(3, rows[0], rows[1], rows[0]),
		body(2, row{api.ID{}, false, nil}, row{api.ID{}, false, nil}),
		body(2, row{id(1), false, nil}, row{api.ID{}, false, nil}),
		marked(2), marked(3), marked(128), marked(255),
		counted(0), counted(1), counted(3), counted(math.MaxUint32),
		placed(1<<20+1, 0), placed(0, 1<<20+1), placed(math.MaxUint32, 0), placed(0, math.MaxUint32),
	} {
		t.Logf("case %d", i)
		refused(t, sealed(73, b), api.ErrForm)
	}
	for n := range len(whole) {
		refused(t, sealed(73, whole[:n]), api.ErrForm)
	}
}

func TestDecodeOfMany(t *testing.T) {
	full := row{id(1), true, noughts(4096)}
	x, e := index.Decode(sealed(73, body(1, full)))
	if e != api.OK {
		t.Fatalf("4096 blobs: %d", e)
	}
	if list, _, _ := x.Pack(id(1)); !slices.Equal(list, full.list) {
		t.Error("4096 blobs")
	}
	refused(t, sealed(73, body(1, row{id(1), true, noughts(4097)})), api.ErrForm)
	var rows []row
	for i := range 4097 {
		rows = append(rows, row{id(i), false, nil})
	}
	if x, e := index.Decode(sealed(73, body(4096, rows[:4096]...))); e != api.OK || x.Len() != 4096 {
		t.Errorf("4096 packs: %d", e)
	}
	refused(t, sealed(73, body(4097, rows...)), api.ErrForm)
}

// P13.1: of all bytes.
func TestManyBytes(t *testing.T) {
	r := rand.New(rand.NewSource(4))
	rights := 0
	for range 20000 {
		var rows []row
		rise := true
		n := r.Intn(4)
		for range n {
			next := row{id(r.Intn(6)), r.Intn(2) == 0, some(r, r.Intn(3))}
			rise = rise && (len(rows) == 0 || bytes.Compare(rows[len(rows)-1].id[:], next.id[:]) < 0)
			rows = append(rows, next)
		}
		if r.Intn(8) == 0 {
			n++
		}
		b := sealed(73, body(n, rows...))
		if rise && n == len(rows) {
			rights++
			read(t, b, rows)
		} else {
			refused(t, b, api.ErrForm)
		}
	}
	if rights == 0 {
		t.Error("none was right")
	}
	// Whatever stands within: if it is read, it is these bytes again.
	for range 50000 {
		b := body(2, two()...)
		b[r.Intn(len(b))] = byte(r.Intn(256))
		b = sealed(73, b)
		x, e := index.Decode(b)
		if e == api.OK && !bytes.Equal(x.Encode(), b) || e != api.OK && (e != api.ErrForm || x != nil) {
			t.Fatalf("%x: %d", b, e)
		}
	}
}

func TestBytesAreNeitherTurnedNorKept(t *testing.T) {
	memory := append(sealed(73, body(2, two()...)), "more"...)
	given := slices.Clone(memory)
	x, e := index.Decode(memory[:len(memory)-4])
	if e != api.OK || !bytes.Equal(memory, given) {
		t.Fatalf("what was handed in was turned: %d", e)
	}
	clear(memory)
	same(t, x, two())
	b := x.Encode()
	clear(b[:cap(b)])
	same(t, x, two())
	if binary.LittleEndian.Uint32(x.Encode()[1:]) != 2 {
		t.Error("an answer is kept")
	}
}
