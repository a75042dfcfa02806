package seal_test

import (
	"bytes"
	"hash/crc32"
	"math/rand"
	"slices"
	"testing"

	"coldstore/api"
	"coldstore/seal"
)

var castagnoli = crc32.MakeTable(crc32.Castagnoli)

// some is so many bytes, the same ones each time.
func some(n int, seed int64) []byte {
	b := make([]byte, n)
	rand.New(rand.NewSource(seed)).Read(b)
	return b
}

// low is a sum's bytes, the lowest one first.
func low(sum uint32) []byte {
	return []byte{byte(sum), byte(sum >> 8), byte(sum >> 16), byte(sum >> 24)}
}

// withSum is bytes, and their sum.
func withSum(b []byte) []byte {
	return append(slices.Clone(b), low(crc32.Checksum(b, castagnoli))...)
}

func TestSum(t *testing.T) {
	for b, want := range map[string]uint32{
		"":                                     0,
		"a":                                    0xc1d04330,
		"123456789":                            0xe3069283,
		"\x00\x00\x00\x00":                     0x48674bc7,
		string(make([]byte, 32)):               0x8a9136aa,
		string(bytes.Repeat([]byte{0xff}, 32)): 0x62a8ab43,
	} {
		if got := seal.Sum([]byte(b)); got != want {
			t.Errorf("%q: %08x", b, got)
		}
	}
	if seal.Sum(nil) != 0 {
		t.Error("nil")
	}
	for c := range 256 {
		b := []byte{byte(c)}
		if got := seal.Sum(b); got != crc32.Checksum(b, castagnoli) {
			t.Errorf("%x: %08x", c, got)
		}
	}
	for n := range 300 {
		b := some(n*n/3, int64(n))
		if got := seal.Sum(b); got != crc32.Checksum(b, castagnoli) {
			t.Errorf("%d bytes: %08x", len(b), got)
		}
	}
}

func TestSealAndBack(t *testing.T) {
	for kind := range 256 {
		b := some(kind%70, int64(kind))
		sealed := seal.Seal(byte(kind), b)
		if !bytes.Equal(sealed, withSum(append([]byte{byte(kind)}, b...))) {
			t.Errorf("%d, %x: %x", kind, b, sealed)
		}
		if got, e := seal.Unseal(byte(kind), sealed); e != api.OK || !bytes.Equal(got, b) {
			t.Errorf("%d, %x: %x %d", kind, b, got, e)
		}
		for other := range 256 {
			if other == kind {
				continue
			}
			if got, e := seal.Unseal(byte(other), sealed); e != api.ErrForm || len(got) != 0 {
				t.Errorf("%d as %d: %x %d", kind, other, got, e)
			}
		}
	}
	if got := seal.Seal(7, nil); !bytes.Equal(got, seal.Seal(7, []byte{})) || len(got) != 5 {
		t.Errorf("no bytes: %x", got)
	}
	big := some(1<<20, 9)
	if got, e := seal.Unseal(1, seal.Seal(1, big)); e != api.OK || !bytes.Equal(got, big) {
		t.Errorf("many bytes: %d", e)
	}
}

func TestUnsealOfOthers(t *testing.T) {
	turned := seal.Seal(80, []byte("abc"))
	turned[2] ^= 1
	high := []byte{80, 'a'}
	sum := low(crc32.Checksum(high, castagnoli))
	slices.Reverse(sum)
	for i, c := range []struct {
		b []byte
		e api.Errno
	}{
		{nil, api.ErrShort},
		{[]byte{}, api.ErrShort},
		{[]byte{80}, api.ErrShort},
		{make([]byte, 4), api.ErrShort},
		{low(0), api.ErrShort},
		{withSum(nil), api.ErrShort},
		{make([]byte, 5), api.ErrSum},
		{turned, api.ErrSum},
		{append(high, sum...), api.ErrSum},
		{append(seal.Seal(80, []byte("abc")), 0), api.ErrSum},
		{seal.Seal(80, []byte("abc"))[1:], api.ErrSum},
		{seal.Seal(81, []byte("abc")), api.ErrForm},
		{seal.Seal(0, nil), api.ErrForm},
		{seal.Seal(80, nil), api.OK},
	} {
		if got, e := seal.Unseal(80, c.b); e != c.e || len(got) != 0 {
			t.Errorf("case %d: %x %d, not %d", i, got, e, c.e)
		}
	}
	sealed := seal.Seal(80, []byte("abcdef"))
	for n := range sealed {
		want := api.ErrSum
		if n < 5 {
			want = api.ErrShort
		}
		if got, e := seal.Unseal(80, sealed[:n]); e != want || len(got) != 0 {
			t.Errorf("cut to %d: %x %d", n, got, e)
		}
	}
}

// turn turns bits from one on, the lowest one of a byte first, as a mask says.
func turn(b []byte, from int, mask uint32) []byte {
	b = slices.Clone(b)
	for i := range 32 {
		if at := from + i; mask>>i&1 == 1 && at < 8*len(b) {
			b[at/8] ^= 1 << (at % 8)
		}
	}
	return b
}

func TestNothingTurnedIsUnsealed(t *testing.T) {
	r := rand.New(rand.NewSource(6))
	for n := range 12 {
		sealed := seal.Seal(byte(r.Intn(256)), some(n, r.Int63()))
		for from := range 8 * len(sealed) {
			masks := []uint32{1, 1<<31 | 1, 1<<32 - 1, 0x82f63b78, 0x05ec76f1}
			for range 20 {
				masks = append(masks, r.Uint32()|1)
			}
			for _, mask := range masks {
				turned := turn(sealed, from, mask)
				if bytes.Equal(turned, sealed) {
					continue
				}
				for _, kind := range []byte{sealed[0], turned[0]} {
					if got, e := seal.Unseal(kind, turned); e != api.ErrSum || len(got) != 0 {
						t.Fatalf("%x as %x: %x %d", sealed, turned, got, e)
					}
				}
			}
		}
	}
}

func TestSealIsTheCallersOwn(t *testing.T) {
	memory := []byte("abcdefghijkl")
	sealed := seal.Seal(1, memory[:3])
	again := seal.Seal(1, memory[:3])
	if string(memory) != "abcdefghijkl" {
		t.Errorf("what was handed in was changed: %s", memory)
	}
	clear(memory)
	if string(sealed[1:4]) != "abc" {
		t.Errorf("what was handed in was kept: %x", sealed)
	}
	clear(sealed[:cap(sealed)])
	sealed = slices.Clone(again)
	got, e := seal.Unseal(1, again)
	if e != api.OK || !bytes.Equal(again, sealed) {
		t.Errorf("%d %x", e, again)
	}
	clear(again)
	if string(got) != "abc" {
		t.Errorf("what was handed in was kept: %x", got)
	}
	again = slices.Clone(sealed)
	got, _ = seal.Unseal(1, again)
	clear(got[:cap(got)])
	if !bytes.Equal(again, sealed) {
		t.Errorf("what was handed in was handed out: %x", again)
	}
}
