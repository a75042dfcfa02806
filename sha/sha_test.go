package sha_test

import (
	"bytes"
	"crypto/sha256"
	"encoding/hex"
	"math/rand"
	"slices"
	"strings"
	"testing"

	"coldstore/api"
	"coldstore/sha"
)

// some is so many bytes, the same ones each time.
func some(n int, seed int64) []byte {
	b := make([]byte, n)
	rand.New(rand.NewSource(seed)).Read(b)
	return b
}

func TestOfKnownBytes(t *testing.T) {
	for b, want := range map[string]string{
		"":    "e3b0c44298fc1c149afbf4c8996fb92427ae41e4649b934ca495991b7852b855",
		"abc": "ba7816bf8f01cfea414140de5dae2223b00361a396177a9cb410ff61f20015ad",
		"abcdbcdecdefdefgefghfghighijhijkijkljklmklmnlmnomnopnopq":                                                         "248d6a61d20638b8e5c026930c3e6039a33ce45964ff2167f6ecedd419db06c1",
		"abcdefghbcdefghicdefghijdefghijkefghijklfghijklmghijklmnhijklmnoijklmnopjklmnopqklmnopqrlmnopqrsmnopqrstnopqrstu": "cf5b16a778af8380036ce59e7b0492370b249b11e8f07a51afac45037afee9d1",
		strings.Repeat("a", 1000000): "cdc76e5c9914fb9281a1c7e284d73e67f1809a48a497200e046d39ccc7112cd0",
	} {
		if got := sha.Text(sha.Of([]byte(b))); got != want {
			t.Errorf("%.20q: %s", b, got)
		}
	}
}

func TestOfAllLengths(t *testing.T) {
	b := some(400, 1)
	for n := range len(b) + 1 {
		if got := sha.Of(b[:n]); got != api.ID(sha256.Sum256(b[:n])) {
			t.Errorf("%d bytes: %x", n, got)
		}
	}
	for _, n := range []int{1<<16 - 1, 1 << 16, 1<<20 + 55, 1<<20 + 56} {
		b := some(n, int64(n))
		if got := sha.Of(b); got != api.ID(sha256.Sum256(b)) {
			t.Errorf("%d bytes: %x", n, got)
		}
	}
}

func TestOfBytesOfOneKind(t *testing.T) {
	for c := range 256 {
		for _, n := range []int{1, 63, 64, 65} {
			b := bytes.Repeat([]byte{byte(c)}, n)
			if got := sha.Of(b); got != api.ID(sha256.Sum256(b)) {
				t.Errorf("%d times %d: %x", n, c, got)
			}
		}
	}
}

func TestZeroHash(t *testing.T) {
	var h sha.Hash
	if h.Len() != 0 || h.Sum() != api.ID(sha256.Sum256(nil)) {
		t.Errorf("%d %x", h.Len(), h.Sum())
	}
	h.Write(nil)
	h.Write([]byte{})
	if h.Len() != 0 || h.Sum() != sha.Of(nil) || sha.Of(nil) != sha.Of([]byte{}) {
		t.Errorf("behind no bytes: %d %x", h.Len(), h.Sum())
	}
}

func TestPartsDontMatter(t *testing.T) {
	r := rand.New(rand.NewSource(2))
	for range 300 {
		b := some(r.Intn(700), r.Int63())
		var h sha.Hash
		for at := 0; at < len(b); {
			n := min(r.Intn(200)*r.Intn(2), len(b)-at)
			h.Write(b[at : at+n])
			at += n
			if h.Len() != at {
				t.Fatalf("%d bytes, not %d", h.Len(), at)
			}
			if got := h.Sum(); got != api.ID(sha256.Sum256(b[:at])) || got != h.Sum() {
				t.Fatalf("%d bytes of %d: %x", at, len(b), got)
			}
		}
	}
}

func TestEachCutIntoTwo(t *testing.T) {
	b := some(130, 3)
	want := api.ID(sha256.Sum256(b))
	for n := range len(b) + 1 {
		var h sha.Hash
		h.Write(b[:n])
		h.Write(b[n:])
		if h.Sum() != want || h.Len() != len(b) {
			t.Errorf("cut at %d: %x", n, h.Sum())
		}
	}
	var h sha.Hash
	for i := range b {
		h.Write(b[i : i+1])
	}
	if h.Sum() != want {
		t.Errorf("byte by byte: %x", h.Sum())
	}
}

func TestACopiedHashIsItsOwn(t *testing.T) {
	var h sha.Hash
	h.Write([]byte("abc"))
	other := h
	other.Write([]byte("d"))
	h.Write([]byte("e"))
	if h.Sum() != sha.Of([]byte("abce")) || other.Sum() != sha.Of([]byte("abcd")) || h.Len() != 4 {
		t.Errorf("%x %x", h.Sum(), other.Sum())
	}
}

func TestWhatIsWrittenIsNeitherChangedNorKept(t *testing.T) {
	memory := some(100, 4)
	given := slices.Clone(memory)
	var h sha.Hash
	h.Write(memory[:70])
	sum := h.Sum()
	if !bytes.Equal(memory, given) {
		t.Error("what was handed in was changed")
	}
	clear(memory)
	if h.Sum() != sum || sum != sha.Of(given[:70]) {
		t.Error("what was handed in was kept")
	}
	h.Write(given[70:])
	if h.Sum() != sha.Of(given) {
		t.Error("what was handed in was kept for later")
	}
}

func TestTextAndBack(t *testing.T) {
	for seed := range int64(300) {
		id := api.ID(some(32, seed))
		text := sha.Text(id)
		if text != hex.EncodeToString(id[:]) {
			t.Errorf("%x: %s", id, text)
		}
		if got, e := sha.Parse(text); got != id || e != api.OK {
			t.Errorf("%s: %x %d", text, got, e)
		}
	}
	if got := sha.Text(api.ID{}); got != strings.Repeat("0", 64) {
		t.Errorf("noughts: %s", got)
	}
	if got := sha.Text(api.ID{0: 0x01, 1: 0xf0, 31: 0xab}); got != "01f0"+strings.Repeat("0", 58)+"ab" {
		t.Errorf("%s", got)
	}
}

func TestParseOfEachByte(t *testing.T) {
	for c := range 256 {
		for at := range 64 {
			text := []byte(strings.Repeat("5", 64))
			text[at] = byte(c)
			id, e := sha.Parse(string(text))
			if strings.IndexByte("0123456789abcdef", byte(c)) >= 0 {
				if e != api.OK || sha.Text(id) != string(text) {
					t.Errorf("%q: %d %x", text, e, id)
				}
			} else if e != api.ErrForm || id != (api.ID{}) {
				t.Errorf("%q: %d %x", text, e, id)
			}
		}
	}
}

func TestParseOfOtherLengths(t *testing.T) {
	for n := range 200 {
		if n == 64 {
			continue
		}
		if id, e := sha.Parse(strings.Repeat("a", n)); e != api.ErrForm || id != (api.ID{}) {
			t.Errorf("%d digits: %d %x", n, e, id)
		}
	}
	for _, s := range []string{
		strings.Repeat("A", 64),
		"0x" + strings.Repeat("1", 62),
		"+" + strings.Repeat("1", 63),
		" " + strings.Repeat("1", 64),
		strings.Repeat("1", 64) + "\n",
		strings.Repeat("é", 32),
		strings.Repeat("1", 62) + "é",
		strings.Repeat("\x00", 64),
	} {
		if id, e := sha.Parse(s); e != api.ErrForm || id != (api.ID{}) {
			t.Errorf("%q: %d %x", s, e, id)
		}
	}
}

func TestLess(t *testing.T) {
	for i := range 32 {
		var a, b api.ID
		a[i], b[i] = 0x7f, 0x80
		for j := i + 1; j < 32; j++ {
			a[j] = 0xff
		}
		if !sha.Less(a, b) || sha.Less(b, a) || sha.Less(a, a) || sha.Less(b, b) {
			t.Errorf("unlike at byte %d", i)
		}
	}
	if sha.Less(api.ID{}, api.ID{}) || !sha.Less(api.ID{}, api.ID{31: 1}) || sha.Less(api.ID{0: 1}, api.ID{31: 1}) {
		t.Error("noughts")
	}
	r := rand.New(rand.NewSource(5))
	for range 500 {
		a, b := api.ID(some(32, r.Int63())), api.ID(some(32, r.Int63()))
		n := r.Intn(33)
		copy(b[:n], a[:n])
		if got := sha.Less(a, b); got != (sha.Text(a) < sha.Text(b)) {
			t.Errorf("%x %x: %v", a, b, got)
		}
	}
}
