package code_test

import (
	"bytes"
	"math"
	"math/rand"
	"strings"
	"testing"

	"coldstore/api"
	"coldstore/code"
	"coldstore/guard"
)

// written is what a writing writes.
func written(write func(w *code.Writer)) string {
	var w code.Writer
	write(&w)
	return string(w.Done())
}

func TestWriterNum(t *testing.T) {
	const n = 0x1122334455667788
	whole := "\x88\x77\x66\x55\x44\x33\x22\x11"
	for _, c := range []struct{ size, want int }{
		{math.MinInt, 1}, {-1, 1}, {0, 1}, {1, 1}, {2, 2}, {3, 3}, {4, 4}, {5, 5}, {6, 6}, {7, 7}, {8, 8}, {9, 8}, {math.MaxInt, 8},
	} {
		if got := written(func(w *code.Writer) { w.Num(n, c.size) }); got != whole[:c.want] {
			t.Errorf("size %d: %x", c.size, got)
		}
	}
	if got := written(func(w *code.Writer) { w.Num(math.MaxUint64, 8) }); got != strings.Repeat("\xff", 8) {
		t.Errorf("%x", got)
	}
	if got := written(func(w *code.Writer) { w.Num(258, 2) }); got != "\x02\x01" {
		t.Errorf("%x", got)
	}
	if got := written(func(w *code.Writer) { w.Num(256, 1) }); got != "\x00" {
		t.Errorf("%x", got)
	}
}

func TestWriterFields(t *testing.T) {
	long := strings.Repeat("x", 300)
	for _, c := range []struct {
		write func(w *code.Writer)
		want  string
	}{
		{func(w *code.Writer) {}, ""},
		{func(w *code.Writer) { w.Bytes(nil) }, "\x00\x00\x00\x00"},
		{func(w *code.Writer) { w.Bytes([]byte{}) }, "\x00\x00\x00\x00"},
		{func(w *code.Writer) { w.Bytes([]byte("ab")) }, "\x02\x00\x00\x00ab"},
		{func(w *code.Writer) { w.Bytes([]byte(long)) }, "\x2c\x01\x00\x00" + long},
		{func(w *code.Writer) { w.Text("") }, "\x00\x00\x00\x00"},
		{func(w *code.Writer) { w.Text("\xff\x00é") }, "\x04\x00\x00\x00\xff\x00\xc3\xa9"},
		{func(w *code.Writer) { w.Text(long) }, "\x2c\x01\x00\x00" + long},
		{func(w *code.Writer) { w.Raw(nil) }, ""},
		{func(w *code.Writer) { w.Raw([]byte{9, 0}) }, "\x09\x00"},
		{func(w *code.Writer) { w.Raw([]byte("a")); w.Num(1, 1); w.Text("b"); w.Bytes([]byte("c")) }, "a\x01\x01\x00\x00\x00b\x01\x00\x00\x00c"},
	} {
		if got := written(c.write); got != c.want {
			t.Errorf("%x, not %x", got, c.want)
		}
	}
}

func TestDoneIsACopy(t *testing.T) {
	var w code.Writer
	if len(w.Done()) != 0 {
		t.Error("the zero Writer has bytes")
	}
	w.Raw([]byte("abc"))
	first := w.Done()
	second := w.Done()
	first[0] = 'X'
	_ = append(first, "YYYYYYYYYYYYYYYY"...)
	if string(second) != "abc" || string(w.Done()) != "abc" {
		t.Errorf("%s %s", second, w.Done())
	}
	w.Text("d")
	w.Num(7, 1)
	if string(second) != "abc" || string(w.Done()) != "abc\x01\x00\x00\x00d\x07" {
		t.Errorf("%q %q", second, w.Done())
	}
}

func TestWriterKeepsNothingThatIsHandedIn(t *testing.T) {
	memory := []byte("abcdef")
	var w code.Writer
	w.Raw(memory[:3])
	w.Bytes(memory[:2])
	w.Num(1, 8)
	if string(memory) != "abcdef" {
		t.Errorf("what was handed in was changed: %s", memory)
	}
	clear(memory)
	if got := string(w.Done()); got != "abc\x02\x00\x00\x00ab\x01\x00\x00\x00\x00\x00\x00\x00" {
		t.Errorf("%q", got)
	}
}

func TestDecodeEnds(t *testing.T) {
	for i, c := range []struct {
		b    string
		read func(*code.Reader)
		e    api.Errno
	}{
		{"", nil, api.OK},
		{"a", nil, api.ErrMore},
		{"", func(*code.Reader) {}, api.OK},
		{"a", func(*code.Reader) {}, api.ErrMore},
		{"ab", func(r *code.Reader) { r.Raw(1) }, api.ErrMore},
		{"ab", func(r *code.Reader) { r.Raw(2) }, api.OK},
		{"ab", func(r *code.Reader) { guard.Must(api.ErrNone) }, api.ErrNone},
		{"ab", func(r *code.Reader) { r.Raw(2); guard.Must(api.ErrNone) }, api.ErrNone},
		{"ab", func(r *code.Reader) { panic(api.OK) }, api.ErrMore},
		{"ab", func(r *code.Reader) { r.Raw(2); panic(api.OK) }, api.OK},
		{"ab", func(r *code.Reader) { r.Raw(3) }, api.ErrShort},
	} {
		if e := code.Decode([]byte(c.b), c.read); e != c.e {
			t.Errorf("case %d: %d, not %d", i, e, c.e)
		}
	}
	if e := code.Decode(nil, func(r *code.Reader) { r.Num(1) }); e != api.ErrShort {
		t.Errorf("nil: %d", e)
	}
}

func TestDecodeLetsOtherPanicsGoOn(t *testing.T) {
	f := guard.NewFuse(0)
	if !f.Catch(func() { code.Decode(nil, func(*code.Reader) { f.Step() }) }) {
		t.Error("a blown fuse was caught")
	}
	defer func() {
		if x := recover(); x != "other" {
			t.Errorf("%v", x)
		}
	}()
	code.Decode(nil, func(*code.Reader) { panic("other") })
}

// reading is one call of a reader: what it should tell of bytes, how many of them it reads, or what it throws.
type reading struct {
	name string
	do   func(r *code.Reader) string
	want string
	read int
	e    api.Errno
}

func num(size int) func(r *code.Reader) string {
	return func(r *code.Reader) string {
		return written(func(w *code.Writer) { w.Num(r.Num(size), 8) })
	}
}

func list(most int) func(r *code.Reader) string {
	return func(r *code.Reader) string { return string(r.Bytes(most)) }
}

func text(most int) func(r *code.Reader) string {
	return func(r *code.Reader) string { return r.Text(most) }
}

func raw(n int) func(r *code.Reader) string {
	return func(r *code.Reader) string { return string(r.Raw(n)) }
}

func check(t *testing.T, b string, c reading) {
	t.Helper()
	code.Decode([]byte(b), func(r *code.Reader) {
		got := ""
		if e := guard.Run(func() { got = c.do(r) }); e != c.e || got != c.want || r.Left() != len(b)-c.read {
			t.Errorf("%s of %x: %d %x, %d left", c.name, b, e, got, r.Left())
		}
		if rest := string(r.Raw(r.Left())); rest != b[c.read:] {
			t.Errorf("%s of %x: behind it %x", c.name, b, rest)
		}
	})
}

func TestReaderNum(t *testing.T) {
	b := "\x88\x77\x66\x55\x44\x33\x22\x91\x01"
	for _, c := range []struct{ size, read int }{
		{math.MinInt, 1}, {-1, 1}, {0, 1}, {1, 1}, {2, 2}, {3, 3}, {4, 4}, {5, 5}, {6, 6}, {7, 7}, {8, 8}, {9, 8}, {math.MaxInt, 8},
	} {
		want := b[:c.read] + strings.Repeat("\x00", 8-c.read)
		check(t, b, reading{"Num", num(c.size), want, c.read, api.OK})
		check(t, b[:c.read], reading{"Num of all", num(c.size), want, c.read, api.OK})
		check(t, b[:c.read-1], reading{"Num of too few", num(c.size), "", 0, api.ErrShort})
	}
}

func TestReaderRaw(t *testing.T) {
	for _, c := range []reading{
		{"Raw(0)", raw(0), "", 0, api.OK},
		{"Raw(-1)", raw(-1), "", 0, api.OK},
		{"Raw(least)", raw(math.MinInt), "", 0, api.OK},
		{"Raw(2)", raw(2), "ab", 2, api.OK},
		{"Raw(3)", raw(3), "abc", 3, api.OK},
		{"Raw(4)", raw(4), "", 0, api.ErrShort},
		{"Raw(most)", raw(math.MaxInt), "", 0, api.ErrShort},
	} {
		check(t, "abc", c)
	}
	check(t, "", reading{"Raw(0)", raw(0), "", 0, api.OK})
	check(t, "", reading{"Raw(1)", raw(1), "", 0, api.ErrShort})
}

func TestReaderBytesAndText(t *testing.T) {
	for name, of := range map[string]func(int) func(*code.Reader) string{"Bytes": list, "Text": text} {
		two := "\x02\x00\x00\x00abc"
		for _, c := range []reading{
			{name, of(2), "ab", 6, api.OK},
			{name, of(3), "ab", 6, api.OK},
			{name, of(math.MaxInt), "ab", 6, api.OK},
			{name, of(1), "", 0, api.ErrLong},
			{name, of(0), "", 0, api.ErrLong},
			{name, of(-1), "", 0, api.ErrLong},
			{name, of(math.MinInt), "", 0, api.ErrLong},
		} {
			check(t, two, c)
		}
		for n := range 6 {
			check(t, two[:n], reading{name, of(2), "", 0, api.ErrShort})
		}
		for n := range 4 {
			check(t, two[:n], reading{name, of(-1), "", 0, api.ErrShort})
		}
		none := "\x00\x00\x00\x00a"
		for _, most := range []int{-1, 0, 1} {
			check(t, none, reading{name, of(most), "", 4, api.OK})
		}
		for _, c := range []struct {
			b    string
			most int
			e    api.Errno
		}{
			{"\x05\x00\x00\x00ab", 4, api.ErrLong},
			{"\x05\x00\x00\x00ab", 5, api.ErrShort},
			{"\x00\x01\x00\x00ab", 255, api.ErrLong},
			{"\x00\x01\x00\x00ab", 256, api.ErrShort},
			{"\xff\xff\xff\xff", math.MaxUint32 - 1, api.ErrLong},
			{"\xff\xff\xff\xff", math.MaxUint32, api.ErrShort},
			{"\x00\x00\x00\x80", math.MaxInt, api.ErrShort},
			{"\x00\x00\x00\x80", 0, api.ErrLong},
		} {
			check(t, c.b, reading{name, of(c.most), "", 0, c.e})
		}
	}
}

func TestZeroReaderHasNoBytes(t *testing.T) {
	var r code.Reader
	if r.Left() != 0 || len(r.Raw(0)) != 0 || guard.Run(func() { r.Raw(1) }) != api.ErrShort || guard.Run(func() { r.Text(0) }) != api.ErrShort {
		t.Error("the zero Reader")
	}
}

func TestReaderHasItsOwnCopy(t *testing.T) {
	b := []byte("abcd")
	if e := code.Decode(b, func(r *code.Reader) {
		clear(b)
		if got := string(r.Raw(2)); got != "ab" {
			t.Errorf("%q", got)
		}
		copy(b, "wxyz")
		got := r.Raw(2)
		if string(got) != "cd" {
			t.Errorf("%q", got)
		}
		got[0] = 'X'
	}); e != api.OK || string(b) != "wxyz" {
		t.Errorf("%d %s", e, b)
	}
}

func TestWhatIsReadIsTheCallersOwn(t *testing.T) {
	b := []byte("ab\x02\x00\x00\x00cd\x00\x00\x00\x00ef")
	given := string(b)
	if e := code.Decode(b, func(r *code.Reader) {
		var parts [][]byte
		for _, read := range []func() []byte{
			func() []byte { return r.Raw(0) },
			func() []byte { return r.Raw(2) },
			func() []byte { return r.Bytes(2) },
			func() []byte { return r.Bytes(2) },
			func() []byte { return r.Raw(2) },
		} {
			part := read()
			clear(part)
			_ = append(part, bytes.Repeat([]byte{1}, 20)...)
			_ = append(part, 1)
			parts = append(parts, part)
		}
		copy(parts[1], "AB")
		copy(parts[2], "CD")
		copy(parts[4], "EF")
		if got := string(bytes.Join(parts, []byte("|"))); got != "|AB|CD||EF" {
			t.Errorf("%q", got)
		}
	}); e != api.OK || string(b) != given {
		t.Errorf("%d %q", e, b)
	}
	if e := code.Decode([]byte("abcdef"), func(r *code.Reader) {
		_ = append(r.Raw(2), "XXXX"...)
		_ = append(r.Raw(0), "Y"...)
		if got := string(r.Raw(4)); got != "cdef" {
			t.Errorf("what stands behind was written over: %q", got)
		}
	}); e != api.OK {
		t.Errorf("%d", e)
	}
}

// field is a field as it is written, and as it is read.
type field struct {
	kind int
	n    uint64
	size int
	b    []byte
}

func someField(r *rand.Rand) field {
	f := field{kind: r.Intn(4), n: r.Uint64() >> r.Intn(64), size: r.Intn(12) - 2, b: make([]byte, r.Intn(9))}
	r.Read(f.b)
	return f
}

func (f field) write(w *code.Writer) {
	switch f.kind {
	case 0:
		w.Num(f.n, f.size)
	case 1:
		w.Bytes(f.b)
	case 2:
		w.Text(string(f.b))
	default:
		w.Raw(f.b)
	}
}

// read tells whether the field that is read is this one.
func (f field) read(r *code.Reader) bool {
	switch f.kind {
	case 0:
		size := min(max(f.size, 1), 8)
		return r.Num(f.size) == f.n&(math.MaxUint64>>(64-8*size))
	case 1:
		return bytes.Equal(r.Bytes(len(f.b)), f.b)
	case 2:
		return r.Text(len(f.b)) == string(f.b)
	default:
		return bytes.Equal(r.Raw(len(f.b)), f.b)
	}
}

func TestWhatIsWrittenIsRead(t *testing.T) {
	r := rand.New(rand.NewSource(2))
	for range 500 {
		var fields []field
		var ends []int
		var w code.Writer
		for range r.Intn(12) {
			f := someField(r)
			f.write(&w)
			fields = append(fields, f)
			ends = append(ends, len(w.Done()))
		}
		b := w.Done()
		readAll := func(r *code.Reader) {
			for i, f := range fields {
				if !f.read(r) || r.Left() != len(b)-ends[i] {
					t.Errorf("field %d of %x: %v, %d left", i, b, f, r.Left())
				}
			}
		}
		if e := code.Decode(b, readAll); e != api.OK {
			t.Errorf("%d", e)
		}
		if e := code.Decode(append(b, 0), func(r *code.Reader) {
			for _, f := range fields {
				f.read(r)
			}
		}); e != api.ErrMore {
			t.Errorf("with one byte more: %d", e)
		}
	}
}

func TestCutFieldsReadNothing(t *testing.T) {
	r := rand.New(rand.NewSource(3))
	for range 300 {
		f := someField(r)
		var w code.Writer
		f.write(&w)
		b := w.Done()
		for n := range b {
			code.Decode(b[:n], func(r *code.Reader) {
				if e := guard.Run(func() { f.read(r) }); e != api.ErrShort || r.Left() != n {
					t.Errorf("%v cut to %d: %d, %d left", f, n, e, r.Left())
				}
			})
		}
	}
}
