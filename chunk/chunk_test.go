package chunk_test

import (
	"bytes"
	"math"
	"math/rand"
	"slices"
	"testing"

	"coldstore/api"
	"coldstore/chunk"
	"coldstore/roll"
)

// some is so many bytes, the same ones each time.
func some(n int, seed int64) []byte {
	b := make([]byte, n)
	rand.New(rand.NewSource(seed)).Read(b)
	return b
}

// made is a chunker that must be made.
func made(t *testing.T, p chunk.Params) *chunk.Chunker {
	t.Helper()
	c, e := chunk.New(p)
	if c == nil || e != api.OK {
		t.Fatalf("%+v: %v %d", p, c, e)
	}
	return c
}

// model is chunks, as the chapter says them: each window's sum is made anew, of the bytes themselves.
func model(p chunk.Params, b []byte) [][]byte {
	table := roll.Make(p.Seed)
	var list [][]byte
	begin := 0
	for i := range b {
		n := i + 1 - begin
		sum := table.Sum(b[max(begin, i+1-p.Width) : i+1])
		if n >= p.Min && sum%(1<<p.Bits) == 0 || n == p.Max || i == len(b)-1 {
			list = append(list, b[begin:i+1])
			begin = i + 1
		}
	}
	return list
}

// lengths is how many bytes each chunk has.
func lengths(list [][]byte) []int {
	var all []int
	for _, piece := range list {
		all = append(all, len(piece))
	}
	return all
}

// same tells whether two lists have the same chunks.
func same(a, b [][]byte) bool {
	return slices.EqualFunc(a, b, bytes.Equal)
}

// hold holds what all of a chunker's calls answer against a list of chunks.
func hold(t *testing.T, c *chunk.Chunker, b []byte, want [][]byte) {
	t.Helper()
	first := 0
	if len(want) > 0 {
		first = len(want[0])
	}
	if got := c.First(b); got != first {
		t.Fatalf("the first one of %d bytes: %d, not %d", len(b), got, first)
	}
	if got := c.Split(b); !same(got, want) {
		t.Fatalf("%d bytes: %d, not %d", len(b), lengths(got), lengths(want))
	}
	n, at := 0, 0
	for begin, piece := range c.All(b) {
		if n >= len(want) || begin != at || !bytes.Equal(piece, want[n]) {
			t.Fatalf("chunk %d of %d: %d bytes from %d on, not from %d", n, len(want), len(piece), begin, at)
		}
		n++
		at += len(piece)
	}
	if n != len(want) || at != len(b) {
		t.Fatalf("%d of %d chunks, %d of %d bytes", n, len(want), at, len(b))
	}
}

func TestParams(t *testing.T) {
	good := chunk.Params{Min: 2, Max: 9, Bits: 3, Width: 4, Seed: 5}
	for _, turn := range []func(p *chunk.Params){
		func(p *chunk.Params) { p.Min = 0 },
		func(p *chunk.Params) { p.Min = -1 },
		func(p *chunk.Params) { p.Min = math.MinInt },
		func(p *chunk.Params) { p.Min = 10 },
		func(p *chunk.Params) { p.Min = math.MaxInt },
		func(p *chunk.Params) { p.Max = 1 },
		func(p *chunk.Params) { p.Max = 0 },
		func(p *chunk.Params) { p.Max = -3 },
		func(p *chunk.Params) { p.Max = math.MinInt },
		func(p *chunk.Params) { p.Max = 1<<16 + 1 },
		func(p *chunk.Params) { p.Max = math.MaxInt },
		func(p *chunk.Params) { p.Min, p.Max = 0, 0 },
		func(p *chunk.Params) { p.Min, p.Max = -5, -2 },
		func(p *chunk.Params) { p.Min, p.Max = 1<<16+1, 1<<16+1 },
		func(p *chunk.Params) { p.Min, p.Max = math.MaxInt, math.MaxInt },
		func(p *chunk.Params) { p.Bits = -1 },
		func(p *chunk.Params) { p.Bits = 21 },
		func(p *chunk.Params) { p.Bits = math.MinInt },
		func(p *chunk.Params) { p.Bits = math.MaxInt },
		func(p *chunk.Params) { p.Width = 0 },
		func(p *chunk.Params) { p.Width = -1 },
		func(p *chunk.Params) { p.Width = 65 },
		func(p *chunk.Params) { p.Width = math.MinInt },
		func(p *chunk.Params) { p.Width = math.MaxInt },
		func(p *chunk.Params) { *p = chunk.Params{} },
	} {
		p := good
		turn(&p)
		if c, e := chunk.New(p); c != nil || e != api.ErrArg {
			t.Errorf("%+v: %v %d", p, c, e)
		}
	}
	for _, p := range []chunk.Params{
		good,
		{Min: 1, Max: 1, Bits: 0, Width: 1},
		{Min: 1, Max: 1 << 16, Bits: 20, Width: 64, Seed: math.MaxUint64},
		{Min: 1 << 16, Max: 1 << 16, Bits: 0, Width: 64},
		{Min: 9, Max: 9, Bits: 20, Width: 1},
	} {
		hold(t, made(t, p), some(300, 1), model(p, some(300, 1)))
	}
}

func TestMinAndMax(t *testing.T) {
	b := some(5, 1)
	hold(t, made(t, chunk.Params{Min: 2, Max: 2, Width: 1}), b, [][]byte{b[:2], b[2:4], b[4:]})
	hold(t, made(t, chunk.Params{Min: 1, Max: 1, Bits: 20, Width: 64}), b, [][]byte{b[:1], b[1:2], b[2:3], b[3:4], b[4:]})
	for n := 1; n <= 40; n++ {
		p := chunk.Params{Min: 7, Max: 7, Bits: n % 21, Width: 1 + n, Seed: 3}
		hold(t, made(t, p), some(n, 2), slices.Collect(slices.Chunk(some(n, 2), 7)))
		// Of no bits each sum ends with as many.
		p = chunk.Params{Min: 7, Max: 1 << 16, Width: 1 + n, Seed: 3}
		hold(t, made(t, p), some(n, 2), slices.Collect(slices.Chunk(some(n, 2), 7)))
	}
}

func TestNoBytes(t *testing.T) {
	for _, p := range []chunk.Params{{Min: 1, Max: 1, Width: 1}, {Min: 3, Max: 9, Bits: 20, Width: 64}} {
		c := made(t, p)
		hold(t, c, nil, nil)
		hold(t, c, []byte{}, nil)
	}
}

func TestFewerBytesThanMin(t *testing.T) {
	c := made(t, chunk.Params{Min: 10, Max: 20, Width: 8})
	for n := 1; n <= 10; n++ {
		hold(t, c, some(n, 1), [][]byte{some(n, 1)})
	}
	hold(t, c, some(11, 1), [][]byte{some(11, 1)[:10], some(11, 1)[10:]})
}

func TestLongestChunks(t *testing.T) {
	b := bytes.Repeat([]byte{1}, 3<<16+5)
	p := chunk.Params{Min: 1 << 15, Max: 1 << 16, Bits: 20, Width: 1, Seed: 1}
	hold(t, made(t, p), b, [][]byte{b[:1<<16], b[1<<16 : 2<<16], b[2<<16 : 3<<16], b[3<<16:]})
	p.Min = 1 << 16
	p.Bits = 0
	hold(t, made(t, p), b, [][]byte{b[:1<<16], b[1<<16 : 2<<16], b[2<<16 : 3<<16], b[3<<16:]})
}

func TestEndsByTheLastByteAlone(t *testing.T) {
	for seed := range uint64(20) {
		table := roll.Make(seed)
		var even, odd byte
		for c := range 256 {
			if table.At(byte(c))%2 == 0 {
				even = byte(c)
			} else {
				odd = byte(c)
			}
		}
		b := []byte{odd, odd, even, even, odd, even, odd, odd, odd, odd, even, odd}
		hold(t, made(t, chunk.Params{Min: 1, Max: 99, Bits: 1, Width: 1, Seed: seed}), b, [][]byte{b[:3], b[3:4], b[4:6], b[6:11], b[11:]})
		hold(t, made(t, chunk.Params{Min: 2, Max: 3, Bits: 1, Width: 1, Seed: seed}), b, [][]byte{b[:3], b[3:6], b[6:9], b[9:11], b[11:]})
		hold(t, made(t, chunk.Params{Min: 4, Max: 5, Bits: 1, Width: 1, Seed: seed}), b, [][]byte{b[:4], b[4:9], b[9:]})
	}
}

func TestAsTheChapterSays(t *testing.T) {
	r := rand.New(rand.NewSource(4))
	for range 3000 {
		least := 1 + r.Intn(40)
		p := chunk.Params{Min: least, Max: least + r.Intn(80), Bits: r.Intn(8), Width: 1 + r.Intn(64), Seed: r.Uint64()}
		b := some(r.Intn(700), r.Int63())
		if r.Intn(3) == 0 {
			// Bytes of few kinds have sums that come again and again.
			for i := range b {
				b[i] %= 2
			}
		}
		hold(t, made(t, p), b, model(p, b))
	}
}

func TestEachWidthAndNumberOfBits(t *testing.T) {
	for width := 1; width <= 64; width++ {
		for _, least := range []int{1, width, width + 1, 100} {
			p := chunk.Params{Min: least, Max: 300, Bits: 4, Width: width, Seed: uint64(width)}
			b := some(1500, int64(width))
			hold(t, made(t, p), b, model(p, b))
		}
	}
	b := some(200000, 1)
	for n := range 21 {
		p := chunk.Params{Min: 1, Max: 1 << 16, Bits: n, Width: 3, Seed: uint64(n)}
		hold(t, made(t, p), b, model(p, b))
	}
}

func TestBytesOfOneKind(t *testing.T) {
	for _, width := range []int{1, 31, 32, 33, 63, 64} {
		for _, c := range []byte{0, 1, 255} {
			p := chunk.Params{Min: 5, Max: 400, Bits: 20, Width: width, Seed: 9}
			b := bytes.Repeat([]byte{c}, 1500)
			hold(t, made(t, p), b, model(p, b))
		}
	}
	// By seed 0 a byte 0 has the number 0.
	b := make([]byte, 10)
	hold(t, made(t, chunk.Params{Min: 3, Max: 9, Bits: 20, Width: 2}), b, [][]byte{b[:3], b[3:6], b[6:9], b[9:]})
}

func TestSeedsMakeADifference(t *testing.T) {
	b := some(20000, 3)
	p := chunk.Params{Min: 1, Max: 1000, Bits: 5, Width: 16, Seed: 1}
	one := lengths(made(t, p).Split(b))
	p.Seed = 2
	if two := lengths(made(t, p).Split(b)); slices.Equal(one, two) {
		t.Error("two seeds cut alike")
	}
}

func TestChunksAreAllBytes(t *testing.T) {
	for seed := range int64(100) {
		b := some(int(seed)*31, seed)
		c := made(t, chunk.Params{Min: 3, Max: 50, Bits: 4, Width: 20, Seed: uint64(seed)})
		if got := bytes.Join(c.Split(b), nil); !bytes.Equal(got, b) {
			t.Errorf("%d bytes: %d", len(b), len(got))
		}
		for i, n := range lengths(c.Split(b)) {
			if last := i == len(c.Split(b))-1; n > 50 || n < 1 || n < 3 && !last {
				t.Errorf("chunk %d: %d bytes", i, n)
			}
		}
	}
}

func TestNoByteAheadOfAnEndMakesADifference(t *testing.T) {
	p := chunk.Params{Min: 3, Max: 60, Bits: 4, Width: 48, Seed: 12}
	c := made(t, p)
	b := some(2000, 5)
	whole := c.Split(b)
	other := c.Split(some(700, 6))
	end := 0
	for i, piece := range whole {
		end += len(piece)
		if rest := c.Split(b[end:]); !same(rest, whole[i+1:]) {
			t.Fatalf("behind chunk %d: %d, not %d", i, lengths(rest), lengths(whole[i+1:]))
		}
		// Behind other chunks, the last of which ends where it would anyway, the same ones follow.
		ahead := slices.Concat(bytes.Join(other[:len(other)-1], nil), b[end:])
		if got := c.Split(ahead); !same(got, slices.Concat(other[:len(other)-1], whole[i+1:])) {
			t.Fatalf("behind other chunks: %d", lengths(got))
		}
	}
	if end != len(b) || len(whole) < 50 {
		t.Errorf("%d chunks of %d bytes", len(whole), end)
	}
}

func TestFirstLooksNoFurtherThanMax(t *testing.T) {
	c := made(t, chunk.Params{Min: 5, Max: 30, Bits: 4, Width: 10, Seed: 1})
	for seed := range int64(300) {
		b := some(90, seed)
		n := c.First(b)
		if n < 5 || n > 30 {
			t.Fatalf("%d bytes", n)
		}
		for _, cut := range []int{n, n + 1, 30, 31, 89} {
			if got := c.First(b[:max(cut, n)]); got != n {
				t.Errorf("of %d bytes: %d, not %d", cut, got, n)
			}
		}
	}
}

func TestWhatIsHandedInIsTheCallersOwn(t *testing.T) {
	c := made(t, chunk.Params{Min: 4, Max: 9, Bits: 2, Width: 3, Seed: 1})
	memory := some(200, 7)
	b := memory[:100]
	want := model(chunk.Params{Min: 4, Max: 9, Bits: 2, Width: 3, Seed: 1}, some(200, 7)[:100])
	hold(t, c, b, want)
	if !bytes.Equal(memory, some(200, 7)) {
		t.Error("what was handed in was turned")
	}
	all, list := c.All(b), c.Split(b)
	clear(memory)
	if !same(list, want) {
		t.Error("what was handed in was kept by Split")
	}
	for range 2 {
		n := 0
		for _, piece := range all {
			if !bytes.Equal(piece, want[n]) {
				t.Fatalf("what was handed in was kept by All: chunk %d", n)
			}
			n++
		}
	}
	// It may be written over while it is gone through, too.
	b = some(100, 7)
	want = c.Split(b)
	n := 0
	for _, piece := range c.All(b) {
		clear(b)
		if !bytes.Equal(piece, want[n]) {
			t.Fatalf("what was handed in was kept by All: chunk %d", n)
		}
		n++
	}
}

func TestWhatIsAnsweredIsTheCallersOwn(t *testing.T) {
	c := made(t, chunk.Params{Min: 4, Max: 9, Bits: 2, Width: 3, Seed: 1})
	b := some(100, 7)
	want := c.Split(b)
	list := c.Split(b)
	for i := range list {
		if !bytes.Equal(list[i], want[i]) {
			t.Fatalf("chunk %d shares memory with one ahead", i)
		}
		room := list[i][:cap(list[i])]
		for k := range room {
			room[k] = 'x'
		}
	}
	all := c.All(b)
	for range 2 {
		n := 0
		for _, piece := range all {
			if !bytes.Equal(piece, want[n]) {
				t.Fatalf("chunk %d shares memory with one ahead", n)
			}
			room := piece[:cap(piece)]
			for k := range room {
				room[k] = 'x'
			}
			n++
		}
	}
	if !bytes.Equal(b, some(100, 7)) || !same(c.Split(b), want) {
		t.Error("what is answered is what was handed in")
	}
}

func TestAllAgainAndStopped(t *testing.T) {
	c := made(t, chunk.Params{Min: 4, Max: 9, Bits: 2, Width: 20, Seed: 1})
	b := some(100, 7)
	want := c.Split(b)
	all := c.All(b)
	for stop := 1; stop <= len(want); stop++ {
		var got [][]byte
		for _, piece := range all {
			got = append(got, piece)
			if len(got) == stop {
				break
			}
		}
		if !same(got, want[:stop]) {
			t.Errorf("stopped behind %d: %d", stop, lengths(got))
		}
	}
	n := 0
	for outer, piece := range all {
		k := 0
		for inner, other := range all {
			// Calls between make no difference to what is gone through.
			c.First(other)
			c.Split(piece)
			if !bytes.Equal(other, want[k]) || inner == outer && k != n {
				t.Fatalf("chunk %d within chunk %d: %d bytes from %d on", k, n, len(other), inner)
			}
			k++
		}
		if k != len(want) || !bytes.Equal(piece, want[n]) {
			t.Fatalf("chunk %d: %d within", n, k)
		}
		n++
	}
	if n != len(want) {
		t.Errorf("%d of %d chunks", n, len(want))
	}
}

func TestChunkersAreOnTheirOwn(t *testing.T) {
	p, q := chunk.Params{Min: 4, Max: 90, Bits: 3, Width: 20, Seed: 1}, chunk.Params{Min: 2, Max: 70, Bits: 4, Width: 9, Seed: 2}
	one, two := made(t, p), made(t, q)
	for seed := range int64(50) {
		b := some(500, seed)
		hold(t, one, b, model(p, b))
		hold(t, two, b[100:], model(q, b[100:]))
	}
}

func TestZeroChunker(t *testing.T) {
	var c chunk.Chunker
	b := some(50, 1)
	if !bytes.Equal(bytes.Join(c.Split(b), nil), b) || c.First(nil) != 0 || len(c.Split(nil)) != 0 {
		t.Errorf("%d", lengths(c.Split(b)))
	}
}
