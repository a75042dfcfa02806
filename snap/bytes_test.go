package snap_test

import (
	"bytes"
	"crypto/sha256"
	"encoding/binary"
	"encoding/hex"
	"hash/crc32"
	"math"
	"math/rand"
	"slices"
	"strings"
	"testing"

	"coldstore/api"
	"coldstore/snap"
)

// sealed is a body's bytes, sealed as of a kind.
func sealed(kind byte, body []byte) []byte {
	b := append([]byte{kind}, body...)
	return binary.LittleEndian.AppendUint32(b, crc32.Checksum(b, crc32.MakeTable(crc32.Castagnoli)))
}

// text is a text's bytes: how many there are, and they.
func text(s string) []byte {
	return append(binary.LittleEndian.AppendUint32(nil, uint32(len(s))), s...)
}

// body is a snapshot's bytes, as the chapter says them, ahead of being sealed; the snapshot may be wrong.
func body(s snap.Snap) []byte {
	b := binary.LittleEndian.AppendUint64(nil, uint64(s.Time))
	b = slices.Concat(b, text(s.Host), text(s.Tag), s.Root[:])
	b = binary.LittleEndian.AppendUint32(b, uint32(s.Files))
	return binary.LittleEndian.AppendUint64(b, uint64(s.Bytes))
}

// encoded is the bytes of a snapshot that must be right.
func encoded(t *testing.T, s snap.Snap) []byte {
	t.Helper()
	b, e := snap.Encode(s)
	if e != api.OK {
		t.Fatalf("%v: %d", s, e)
	}
	return b
}

// refused tells what must be answered by Decode, if bytes are refused.
func refused(t *testing.T, b []byte, want api.Errno) {
	t.Helper()
	if s, e := snap.Decode(b); e != want || s != (snap.Snap{}) {
		t.Errorf("%.80x: %v %d, not %d", b, s, e, want)
	}
}

func TestKnownBytes(t *testing.T) {
	if b := encoded(t, snap.Snap{Host: "a"}); len(b) != 66 {
		t.Errorf("of host a, without a tag: %d bytes", len(b))
	}
	b := encoded(t, snap.Snap{Time: 258, Host: "ab", Tag: "c", Root: api.ID{5, 31: 6}, Files: 259, Bytes: 1 << 40})
	want := "S\x02\x01\x00\x00\x00\x00\x00\x00" +
		"\x02\x00\x00\x00ab" + "\x01\x00\x00\x00c" +
		"\x05" + strings.Repeat("\x00", 30) + "\x06" +
		"\x03\x01\x00\x00" + "\x00\x00\x00\x00\x00\x01\x00\x00"
	if string(b[:len(b)-4]) != want || !bytes.Equal(b, sealed(83, []byte(want[1:]))) {
		t.Errorf("%q", b)
	}
}

func TestEncodedAsTheChapterSaysAndDecoded(t *testing.T) {
	list := []snap.Snap{
		right(),
		{Host: "a"},
		{Time: 1 << 50, Host: long, Tag: long, Files: 512, Bytes: math.MaxInt64},
		with(func(s *snap.Snap) { s.Root = api.ID(bytes.Repeat([]byte{255}, 32)) }),
	}
	for _, name := range parts {
		list = append(list, with(func(s *snap.Snap) { s.Host = name }), with(func(s *snap.Snap) { s.Tag = name }))
	}
	for _, s := range list {
		b := encoded(t, s)
		if !bytes.Equal(b, sealed(83, body(s))) {
			t.Errorf("%v: %x", s, b)
		}
		if got, e := snap.Decode(b); e != api.OK || got != s {
			t.Errorf("%v: %v %d", s, got, e)
		}
	}
}

func TestManySnapshots(t *testing.T) {
	r := rand.New(rand.NewSource(3))
	names := slices.Concat(parts, noParts, []string{""})
	times := []int64{0, 1, 1 << 50, 1<<50 + 1, -1, math.MinInt64, math.MaxInt64}
	files := []int{0, 1, 511, 512, 513, 1 << 31, 1<<32 - 1}
	for range 20000 {
		s := snap.Snap{Time: times[r.Intn(len(times))], Host: names[r.Intn(len(names))], Tag: names[r.Intn(len(names))], Files: files[r.Intn(len(files))], Bytes: times[r.Intn(len(times))]}
		r.Read(s.Root[:])
		b := sealed(83, body(s))
		if snap.Check(s) != api.OK {
			refused(t, b, api.ErrForm)
			continue
		}
		if got, e := snap.Decode(b); e != api.OK || got != s || !bytes.Equal(encoded(t, got), b) {
			t.Fatalf("%v: %v %d", s, got, e)
		}
	}
}

func TestDecodeOfWhatIsNotWhole(t *testing.T) {
	b := encoded(t, right())
	refused(t, nil, api.ErrShort)
	for n := range b {
		want := api.ErrSum
		if n < 5 {
			want = api.ErrShort
		}
		refused(t, b[:n], want)
	}
	for i := range 8 * len(b) {
		turned := slices.Clone(b)
		turned[i/8] ^= 1 << (i % 8)
		refused(t, turned, api.ErrSum)
	}
	refused(t, append(slices.Clone(b), 0), api.ErrSum)
	// Another kind is layer 4's to refuse, whatever stands within.
	for kind := range 256 {
		if kind != 83 {
			refused(t, sealed(byte(kind), body(right())), api.ErrForm)
		}
	}
}

func TestDecodeOfNoSnapshotsBytes(t *testing.T) {
	whole := body(right())
	for n := range whole {
		refused(t, sealed(83, whole[:n]), api.ErrForm)
		refused(t, sealed(83, whole[n+1:]), api.ErrForm)
	}
	refused(t, sealed(83, append(slices.Clone(whole), 0)), api.ErrForm)
	refused(t, sealed(83, slices.Concat(whole, whole)), api.ErrForm)
	for _, turn := range []func(*snap.Snap){
		func(s *snap.Snap) { s.Time = -1 },
		func(s *snap.Snap) { s.Time = 1<<50 + 1 },
		func(s *snap.Snap) { s.Files = 513 },
		func(s *snap.Snap) { s.Files = 1<<32 - 1 },
		func(s *snap.Snap) { s.Bytes = -1 },
		func(s *snap.Snap) { s.Host = "" },
	} {
		refused(t, sealed(83, body(with(turn))), api.ErrForm)
	}
	for _, name := range noParts {
		refused(t, sealed(83, body(with(func(s *snap.Snap) { s.Host = name }))), api.ErrForm)
		refused(t, sealed(83, body(with(func(s *snap.Snap) { s.Tag = name }))), api.ErrForm)
	}
	// A text that tells of more than there may be.
	huge := slices.Clone(whole)
	copy(huge[8:], "\xff\xff\xff\xff")
	refused(t, sealed(83, huge), api.ErrForm)
}

func TestName(t *testing.T) {
	for n := range 200 {
		b := bytes.Repeat([]byte{byte(n)}, n)
		sum := sha256.Sum256(b)
		if got := snap.Name(b); got != "snap/"+hex.EncodeToString(sum[:]) {
			t.Errorf("%d bytes: %s", n, got)
		}
	}
	if got := snap.Name(nil); got != "snap/e3b0c44298fc1c149afbf4c8996fb92427ae41e4649b934ca495991b7852b855" || got != snap.Name([]byte{}) {
		t.Errorf("no bytes: %s", got)
	}
}

func TestBytesAreNeitherTurnedNorKept(t *testing.T) {
	memory := append(encoded(t, right()), 1, 2, 3)
	given := slices.Clone(memory)
	b := memory[:len(memory)-3]
	s, _ := snap.Decode(b)
	snap.Name(b)
	if !bytes.Equal(memory, given) {
		t.Error("what was handed in was turned")
	}
	clear(memory)
	if s != right() {
		t.Errorf("what was handed in was kept: %v", s)
	}
	one, two := encoded(t, right()), encoded(t, right())
	clear(one[:cap(one)])
	if !bytes.Equal(two, given[:len(two)]) || !bytes.Equal(encoded(t, right()), two) {
		t.Error("bytes that were answered share memory")
	}
}
