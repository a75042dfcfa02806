package seal_test

import (
	"bytes"
	"math/rand"
	"slices"
	"testing"

	"coldstore/seal"
)

// rowBytes is a row as it stands in a chain.
func rowBytes(row []byte) []byte {
	return withSum(append(low(uint32(len(row))), row...))
}

func equalRows(a, b [][]byte) bool {
	return slices.EqualFunc(a, b, bytes.Equal)
}

func rows(list ...string) [][]byte {
	var made [][]byte
	for _, s := range list {
		made = append(made, []byte(s))
	}
	return made
}

// someRows is rows, and where each one ends in their chain.
func someRows(r *rand.Rand) ([][]byte, []int) {
	var list [][]byte
	var ends []int
	end := 0
	for range r.Intn(6) {
		row := some(r.Intn(9)*r.Intn(9), r.Int63())
		list = append(list, row)
		end += len(row) + 8
		ends = append(ends, end)
	}
	return list, ends
}

func TestChain(t *testing.T) {
	for _, list := range [][][]byte{
		nil,
		{},
		{nil},
		{{}, nil, {}},
		rows("a"),
		rows("abc", "", "de"),
		{some(300, 1), some(70000, 2)},
	} {
		var want []byte
		for _, row := range list {
			want = append(want, rowBytes(row)...)
		}
		chain := seal.Chain(list)
		if !bytes.Equal(chain, want) {
			t.Errorf("%d rows: %x", len(list), chain)
		}
		if got, rest := seal.Unchain(chain); !equalRows(got, list) || len(rest) != 0 {
			t.Errorf("%d rows: %d, and %x", len(list), len(got), rest)
		}
	}
}

func TestACutChainHasItsFirstRows(t *testing.T) {
	r := rand.New(rand.NewSource(3))
	for range 200 {
		list, ends := someRows(r)
		chain := seal.Chain(list)
		for n := range len(chain) + 1 {
			whole, from := 0, 0
			for whole < len(ends) && ends[whole] <= n {
				from = ends[whole]
				whole++
			}
			got, rest := seal.Unchain(chain[:n])
			if !equalRows(got, list[:whole]) || !bytes.Equal(rest, chain[from:n]) {
				t.Fatalf("%x cut to %d: %x, and %x", chain, n, got, rest)
			}
		}
	}
}

func TestATurnedRowEndsTheChain(t *testing.T) {
	r := rand.New(rand.NewSource(4))
	for range 100 {
		list, ends := someRows(r)
		chain := seal.Chain(list)
		from := 0
		for i, end := range ends {
			for at := from; at < end; at++ {
				turned := slices.Clone(chain)
				turned[at] ^= 1 << r.Intn(8)
				got, rest := seal.Unchain(turned)
				if !equalRows(got, list[:i]) || !bytes.Equal(rest, turned[from:]) {
					t.Fatalf("%x turned at %d: %x, and %x", chain, at, got, rest)
				}
			}
			from = end
		}
	}
}

func TestUnchainOfOtherBytes(t *testing.T) {
	high := rowBytes([]byte("ab"))
	slices.Reverse(high[len(high)-4:])
	onlyRow := append(append(low(2), "ab"...), withSum([]byte("ab"))[2:]...)
	for _, b := range [][]byte{
		{0},
		{0, 0, 0, 0},
		make([]byte, 8),
		{255, 255, 255, 255},
		{255, 255, 255, 255, 1, 2, 3, 4, 5, 6, 7, 8},
		{1, 0, 0, 0},
		{2, 0, 0, 0, 'a', 'b'},
		{0, 0, 0, 128, 0, 0, 0, 0},
		high,
		onlyRow,
	} {
		if list, rest := seal.Unchain(b); len(list) != 0 || !bytes.Equal(rest, b) {
			t.Errorf("%x: %x, and %x", b, list, rest)
		}
		chain := append(seal.Chain(rows("x", "")), b...)
		if list, rest := seal.Unchain(chain); !equalRows(list, rows("x", "")) || !bytes.Equal(rest, b) {
			t.Errorf("two rows and %x: %x, and %x", b, list, rest)
		}
	}
	for _, b := range [][]byte{nil, {}} {
		if list, rest := seal.Unchain(b); len(list) != 0 || len(rest) != 0 {
			t.Errorf("no bytes: %x, and %x", list, rest)
		}
	}
}

func TestChainKeepsNothingThatIsHandedIn(t *testing.T) {
	memory := []byte("abcdefghijklmnopqrstuvwxyz")
	list := [][]byte{memory[:2], memory[4:5], memory[8:8]}
	chain := seal.Chain(list)
	if string(memory) != "abcdefghijklmnopqrstuvwxyz" || !equalRows(list, rows("ab", "e", "")) {
		t.Errorf("what was handed in was changed: %s", memory)
	}
	clear(memory)
	if got, _ := seal.Unchain(chain); !equalRows(got, rows("ab", "e", "")) {
		t.Errorf("what was handed in was kept: %x", got)
	}
}

func TestWhatIsUnchainedIsTheCallersOwn(t *testing.T) {
	chain := append(seal.Chain(rows("ab", "", "cd")), "rest"...)
	given := slices.Clone(chain)
	list, rest := seal.Unchain(chain)
	clear(chain)
	if !equalRows(list, rows("ab", "", "cd")) || string(rest) != "rest" {
		t.Errorf("what was handed in was kept: %x, and %x", list, rest)
	}
	copy(chain, given)
	parts := append(slices.Clone(list), rest)
	for _, part := range parts {
		clear(part[:cap(part)])
		_ = append(part, bytes.Repeat([]byte{1}, 30)...)
	}
	if !bytes.Equal(chain, given) {
		t.Errorf("what was handed in was handed out: %x", chain)
	}
	list, rest = seal.Unchain(chain)
	for i, part := range append(slices.Clone(list), rest) {
		part = part[:cap(part)]
		for j := range part {
			part[j] = byte(i + 1)
		}
	}
	if !equalRows(list, rows("\x01\x01", "", "\x03\x03")) || string(rest) != "\x04\x04\x04\x04" {
		t.Errorf("two lists share memory: %x, and %x", list, rest)
	}
}
