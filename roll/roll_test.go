package roll_test

import (
	"bytes"
	"math"
	"math/big"
	"math/rand"
	"testing"

	"coldstore/api"
	"coldstore/roll"
)

// seeds are some seeds, the least and the greatest ones too.
func seeds() []uint64 {
	return []uint64{0, 1, 2, 255, 1 << 31, 1 << 32, 1 << 63, math.MaxUint64, 0x9E3779B97F4A7C15, -0x9E3779B97F4A7C15 & math.MaxUint64, 0x123456789ABCDEF0}
}

// some is so many bytes, the same ones each time.
func some(n int, seed int64) []byte {
	b := make([]byte, n)
	rand.New(rand.NewSource(seed)).Read(b)
	return b
}

// times is a product, modulo 2^64.
func times(a uint64, hex string) uint64 {
	factor, _ := new(big.Int).SetString(hex, 16)
	product := new(big.Int).Mul(new(big.Int).SetUint64(a), factor)
	return product.And(product, new(big.Int).SetUint64(math.MaxUint64)).Uint64()
}

// numberOf is a byte's number, as the chapter says it.
func numberOf(seed uint64, c byte) uint32 {
	x := new(big.Int).Add(new(big.Int).SetUint64(seed), new(big.Int).SetUint64(times(uint64(c), "9E3779B97F4A7C15")))
	n := x.And(x, new(big.Int).SetUint64(math.MaxUint64)).Uint64()
	n = times(n^n/(1<<30), "BF58476D1CE4E5B9")
	n = times(n^n/(1<<27), "94D049BB133111EB")
	n ^= n / (1 << 31)
	return uint32(n / (1 << 32))
}

// numbers is all bytes' numbers.
type numbers [256]uint32

// numbersOf is all bytes' numbers by a seed.
func numbersOf(seed uint64) *numbers {
	var all numbers
	for c := range all {
		all[c] = numberOf(seed, byte(c))
	}
	return &all
}

// sum is the sum of bytes, as the chapter says it.
func (all *numbers) sum(b []byte) uint32 {
	sum := uint32(0)
	for i, c := range b {
		n := all[c]
		turn := (len(b) - 1 - i) % 32
		sum ^= n<<turn | n>>(32-turn)
	}
	return sum
}

// window is a window that must be made.
func window(t *testing.T, table *roll.Table, n int) *roll.Window {
	t.Helper()
	w, e := table.Window(n)
	if w == nil || e != api.OK {
		t.Fatalf("a window of %d: %v %d", n, w, e)
	}
	return w
}

func TestKnownNumbers(t *testing.T) {
	table := roll.Make(0)
	for c, want := range map[byte]uint32{0: 0, 1: 0xE220A839, 2: 0x6E789E6A, 3: 0x06C45D18, 4: 0xF88BB8A8, 5: 0x1B39896A} {
		if got := table.At(c); got != want {
			t.Errorf("%d: %08X, not %08X", c, got, want)
		}
	}
	table = roll.Make(1234567)
	for c, want := range map[byte]uint32{1: 6457827717110365317 >> 32, 2: 3203168211198807973 >> 32, 3: 9817491932198370423 >> 32} {
		if got := table.At(c); got != want {
			t.Errorf("by another seed, %d: %08X, not %08X", c, got, want)
		}
	}
}

func TestEachNumber(t *testing.T) {
	for _, seed := range seeds() {
		table := roll.Make(seed)
		for c := range 256 {
			if got := table.At(byte(c)); got != numberOf(seed, byte(c)) {
				t.Errorf("seed %x, %d: %08X, not %08X", seed, c, got, numberOf(seed, byte(c)))
			}
		}
	}
}

func TestSum(t *testing.T) {
	for _, seed := range seeds() {
		table, all := roll.Make(seed), numbersOf(seed)
		if table.Sum(nil) != 0 || table.Sum([]byte{}) != 0 {
			t.Errorf("seed %x, no bytes: %x", seed, table.Sum(nil))
		}
		for n := range 140 {
			b := some(n, int64(n))
			if got := table.Sum(b); got != all.sum(b) {
				t.Errorf("seed %x, %d bytes: %08X", seed, n, got)
			}
		}
	}
	long := some(3000, 3)
	if got := roll.Make(7).Sum(long); got != numbersOf(7).sum(long) {
		t.Errorf("%d bytes: %08X", len(long), got)
	}
	same := bytes.Repeat([]byte{9}, 64)
	if got := roll.Make(7).Sum(same); got != 0 {
		t.Errorf("64 times one byte, each turn twice: %08X", got)
	}
}

func TestSumLeavesItsBytes(t *testing.T) {
	b := some(100, 1)
	roll.Make(1).Sum(b[:50])
	if !bytes.Equal(b, some(100, 1)) {
		t.Error("the bytes were turned")
	}
}

func TestWidths(t *testing.T) {
	table := roll.Make(5)
	for _, n := range []int{0, -1, -64, 65, 66, 128, 256, math.MinInt, math.MaxInt} {
		if w, e := table.Window(n); w != nil || e != api.ErrArg {
			t.Errorf("a window of %d: %v %d", n, w, e)
		}
	}
	for n := 1; n <= 64; n++ {
		if w := window(t, table, n); w.Sum() != 0 {
			t.Errorf("a new window of %d: %x", n, w.Sum())
		}
	}
}

func TestWindowOfOne(t *testing.T) {
	for _, seed := range seeds() {
		table := roll.Make(seed)
		w := window(t, table, 1)
		for i, c := range some(600, 1) {
			if got := w.Push(c); got != table.At(c) || w.Sum() != got {
				t.Fatalf("seed %x, byte %d: %08X", seed, i, got)
			}
		}
	}
}

func TestEachWindow(t *testing.T) {
	b := some(400, 8)
	for _, seed := range []uint64{0, 6, math.MaxUint64} {
		table, all := roll.Make(seed), numbersOf(seed)
		for n := 1; n <= 64; n++ {
			w := window(t, table, n)
			for i, c := range b {
				want := all.sum(b[max(0, i+1-n) : i+1])
				if got := w.Push(c); got != want || w.Sum() != want || w.Sum() != want {
					t.Fatalf("seed %x, width %d, byte %d: %08X, %08X, not %08X", seed, n, i, got, w.Sum(), want)
				}
			}
		}
	}
}

func TestWindowOfBytesOfOneKind(t *testing.T) {
	for _, n := range []int{1, 2, 31, 32, 33, 63, 64} {
		for _, c := range []byte{0, 1, 128, 255} {
			table := roll.Make(2)
			w := window(t, table, n)
			for i := range 200 {
				want := table.Sum(bytes.Repeat([]byte{c}, min(i+1, n)))
				if got := w.Push(c); got != want {
					t.Fatalf("width %d, %d times %d: %08X, not %08X", n, i+1, c, got, want)
				}
			}
		}
	}
}

func TestLastBytesAlone(t *testing.T) {
	table := roll.Make(11)
	for n := 1; n <= 64; n++ {
		last := some(n, int64(n))
		want := table.Sum(last)
		for ahead := range 150 {
			w := window(t, table, n)
			for _, c := range some(ahead, int64(ahead)+1000) {
				w.Push(c)
			}
			for _, c := range last {
				w.Push(c)
			}
			if w.Sum() != want {
				t.Fatalf("width %d, behind %d bytes: %08X, not %08X", n, ahead, w.Sum(), want)
			}
		}
	}
}

func TestReset(t *testing.T) {
	b := some(200, 4)
	table := roll.Make(3)
	for _, n := range []int{1, 2, 7, 32, 63, 64} {
		w := window(t, table, n)
		w.Reset()
		for _, cut := range []int{0, 1, n - 1, n, n + 1, 64, 65, 199} {
			for i, c := range b[:cut] {
				if got := w.Push(c); got != table.Sum(b[max(0, i+1-n):i+1]) {
					t.Fatalf("width %d, byte %d behind a Reset: %08X", n, i, got)
				}
			}
			w.Reset()
			if w.Sum() != 0 {
				t.Errorf("width %d, reset behind %d: %08X", n, cut, w.Sum())
			}
		}
		w.Reset()
		w.Reset()
		if got := w.Push(b[0]); got != table.At(b[0]) {
			t.Errorf("width %d, reset twice: %08X", n, got)
		}
	}
}

func TestEachIsOnItsOwn(t *testing.T) {
	one, two := roll.Make(1), roll.Make(2)
	a, b, c := window(t, one, 3), window(t, one, 3), window(t, two, 5)
	bytesOf := some(90, 6)
	for i := range 30 {
		part := bytesOf[3*i : 3*i+3]
		a.Push(part[0])
		b.Push(part[1])
		c.Push(part[2])
	}
	var ofA, ofB, ofC []byte
	for i := range 30 {
		ofA, ofB, ofC = append(ofA, bytesOf[3*i]), append(ofB, bytesOf[3*i+1]), append(ofC, bytesOf[3*i+2])
	}
	if a.Sum() != one.Sum(ofA[27:]) || b.Sum() != one.Sum(ofB[27:]) || c.Sum() != two.Sum(ofC[25:]) {
		t.Errorf("%08X %08X %08X", a.Sum(), b.Sum(), c.Sum())
	}
	a.Reset()
	if b.Sum() != one.Sum(ofB[27:]) {
		t.Errorf("behind another one's Reset: %08X", b.Sum())
	}
	// What becomes of the table makes no difference to a window that was made by it.
	*one = *two
	if got := b.Push(9); got != roll.Make(1).Sum([]byte{ofB[28], ofB[29], 9}) {
		t.Errorf("behind another table: %08X", got)
	}
}

func TestEveryOrderOfCalls(t *testing.T) {
	for seed := range 200 {
		r := rand.New(rand.NewSource(int64(seed)))
		n := 1 + r.Intn(64)
		s := r.Uint64()
		table, all := roll.Make(s), numbersOf(s)
		w := window(t, table, n)
		var pushed []byte
		for range 300 {
			switch r.Intn(40) {
			case 0:
				w.Reset()
				pushed = nil
			case 1:
				table.Sum(some(r.Intn(9), 1))
			default:
				c := byte(r.Intn(256))
				pushed = append(pushed, c)
				if got := w.Push(c); got != w.Sum() {
					t.Fatalf("%08X, then %08X", got, w.Sum())
				}
			}
			if want := all.sum(pushed[max(0, len(pushed)-n):]); w.Sum() != want {
				t.Fatalf("seed %x, width %d, behind %d bytes: %08X, not %08X", s, n, len(pushed), w.Sum(), want)
			}
		}
	}
}

func TestZeroThings(t *testing.T) {
	var table roll.Table
	if table.At(7) != 0 || table.Sum([]byte("abc")) != 0 {
		t.Error("a table that no seed made")
	}
	var w roll.Window
	for c := range 200 {
		if w.Push(byte(c)) != 0 || w.Sum() != 0 {
			t.Error("a window that no table made")
		}
	}
	w.Reset()
}
