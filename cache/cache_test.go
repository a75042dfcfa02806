package cache_test

import (
	"bytes"
	"crypto/sha256"
	"math"
	"math/rand"
	"slices"
	"testing"

	"coldstore/api"
	"coldstore/cache"
)

// sum is a blob's sum.
func sum(b string) api.ID {
	return api.ID(sha256.Sum256([]byte(b)))
}

// filled is a cache into which blobs were put, one after the other.
func filled(t *testing.T, limit int, blobs ...string) *cache.Cache {
	t.Helper()
	c := cache.New(limit)
	for _, b := range blobs {
		if id := c.Put([]byte(b)); id != sum(b) {
			t.Fatalf("%q: %x", b, id)
		}
	}
	return c
}

// has tells that a cache has these blobs, that used longest ago first. Nothing is used by it.
func has(t *testing.T, c *cache.Cache, blobs ...string) {
	t.Helper()
	var want []api.ID
	size := 0
	for _, b := range blobs {
		want = append(want, sum(b))
		size += len(b)
	}
	if got := slices.Collect(c.All()); !slices.Equal(got, want) {
		t.Errorf("%d blobs, not %q", len(got), blobs)
	}
	if c.Len() != len(blobs) || c.Size() != size {
		t.Errorf("%d blobs of %d bytes, not %d of %d", c.Len(), c.Size(), len(blobs), size)
	}
}

// got tells that a blob is had.
func got(t *testing.T, c *cache.Cache, b string) {
	t.Helper()
	if x, there := c.Get(sum(b)); string(x) != b || !there {
		t.Errorf("%q: %q %v", b, x, there)
	}
}

// gone tells that a blob isn't had.
func gone(t *testing.T, c *cache.Cache, b string) {
	t.Helper()
	if x, there := c.Get(sum(b)); len(x) != 0 || there {
		t.Errorf("%q: %q %v", b, x, there)
	}
}

func TestTheExample(t *testing.T) {
	c := filled(t, 3, "ab", "c")
	has(t, c, "ab", "c")
	c.Put([]byte("d"))
	has(t, c, "c", "d")
	gone(t, c, "ab")
	got(t, c, "c")
	got(t, c, "d")
}

func TestNothingIsKept(t *testing.T) {
	c := cache.New(10)
	has(t, c)
	gone(t, c, "")
	gone(t, c, "a")
	if _, there := c.Get(api.ID{}); there {
		t.Error("of noughts")
	}
	if c.Spoil(sum("a"), 0) || c.Spoil(api.ID{}, -1) {
		t.Error("spoilt")
	}
	c.Wipe()
	has(t, c)
	// A cache that nobody made has room for no byte.
	var zero cache.Cache
	gone(t, &zero, "")
	if zero.Put([]byte("a")) != sum("a") {
		t.Error("a sum")
	}
	has(t, &zero)
	zero.Put(nil)
	has(t, &zero, "")
	zero.Wipe()
	has(t, &zero)
}

func TestLimits(t *testing.T) {
	for _, limit := range []int{math.MinInt, -1, 0} {
		c := filled(t, limit, "a", "", "bc")
		has(t, c, "")
		got(t, c, "")
		gone(t, c, "a")
	}
	c := filled(t, math.MaxInt, "a", "", "bc")
	has(t, c, "a", "", "bc")
	for n := 1; n < 20; n++ {
		b := string(make([]byte, n))
		has(t, filled(t, n-1, b))
		has(t, filled(t, n, b), b)
		has(t, filled(t, n+1, b), b)
	}
}

func TestThoseUsedLongestAgoGoUntilThereIsRoom(t *testing.T) {
	has(t, filled(t, 6, "a", "bc", "def"), "a", "bc", "def")
	has(t, filled(t, 6, "a", "bc", "def", ""), "a", "bc", "def", "")
	has(t, filled(t, 6, "a", "bc", "def", "g"), "bc", "def", "g")
	has(t, filled(t, 6, "a", "bc", "def", "gh"), "def", "gh")
	has(t, filled(t, 6, "a", "bc", "def", "ghi"), "def", "ghi")
	has(t, filled(t, 6, "a", "bc", "def", "ghij"), "ghij")
	has(t, filled(t, 6, "a", "bc", "def", "ghijkl"), "ghijkl")
	// One of no bytes goes with those that are ahead of what must go; else it stays.
	has(t, filled(t, 3, "", "a", "bc", "d"), "bc", "d")
	has(t, filled(t, 3, "a", "", "bc", "d"), "", "bc", "d")
	has(t, filled(t, 3, "", "a", "bc", ""), "a", "bc", "")
}

func TestOneThatIsLongerThanTheLimit(t *testing.T) {
	c := filled(t, 3, "a", "bc")
	for _, long := range []string{"defg", string(make([]byte, 1<<17))} {
		if c.Put([]byte(long)) != sum(long) {
			t.Error("a sum")
		}
		gone(t, c, long)
		has(t, c, "a", "bc")
	}
	got(t, c, "a")
	has(t, c, "bc", "a")
}

func TestWhatIsUsed(t *testing.T) {
	c := filled(t, 6, "a", "bc", "def")
	got(t, c, "a")
	has(t, c, "bc", "def", "a")
	got(t, c, "def")
	has(t, c, "bc", "a", "def")
	got(t, c, "def")
	has(t, c, "bc", "a", "def")
	gone(t, c, "x")
	has(t, c, "bc", "a", "def")
	// Put again it is used; nothing goes for it.
	c.Put([]byte("bc"))
	has(t, c, "a", "def", "bc")
	c.Put([]byte("bc"))
	has(t, c, "a", "def", "bc")
	c.Put([]byte("g"))
	has(t, c, "def", "bc", "g")
	c.Put([]byte("bc"))
	c.Put([]byte("hij"))
	has(t, c, "g", "bc", "hij")
}

func TestASpoiltBlob(t *testing.T) {
	c := filled(t, 10, "a", "bc", "def")
	if !c.Spoil(sum("bc"), 3) {
		t.Error("not spoilt")
	}
	// It is there yet, and isn't used by that.
	has(t, c, "a", "bc", "def")
	got(t, c, "a")
	has(t, c, "bc", "def", "a")
	gone(t, c, "bc")
	has(t, c, "def", "a")
	gone(t, c, "bc")
	has(t, c, "def", "a")
	if c.Spoil(sum("bc"), 3) {
		t.Error("spoilt, though it is gone")
	}
	c.Put([]byte("bc"))
	got(t, c, "bc")
	has(t, c, "def", "a", "bc")
	// What is put again is replaced, so that it is right again.
	for _, b := range []string{"def", "a"} {
		c.Spoil(sum(b), 0)
		c.Put([]byte(b))
		got(t, c, b)
	}
	has(t, c, "bc", "def", "a")
	// It goes for others as any does.
	c.Spoil(sum("bc"), -1)
	c.Put([]byte("ghijk"))
	has(t, c, "def", "a", "ghijk")
}

func TestSpoilOfWhatHasNoBits(t *testing.T) {
	c := filled(t, 3, "", "a")
	for _, bit := range []int{0, 1, -1, math.MinInt, math.MaxInt} {
		if c.Spoil(sum(""), bit) || c.Spoil(sum("b"), bit) {
			t.Errorf("bit %d", bit)
		}
	}
	has(t, c, "", "a")
	got(t, c, "")
	got(t, c, "a")
}

// Which bit is turned is told by another number for it, which turns it back.
func TestWhichBitIsSpoilt(t *testing.T) {
	for _, b := range []string{"a", "bc", "def", string(make([]byte, 100))} {
		n := 8 * len(b)
		c := filled(t, 1000, b)
		for _, bit := range []int{0, 1, 7, 8, n - 1, n, n + 3, 5*n - 1, -1, -2, -n, -n - 1, -7 * n, math.MaxInt, math.MinInt} {
			want := ((bit % n) + n) % n
			for other := -n; other < 2*n; other++ {
				if !c.Spoil(sum(b), bit) || !c.Spoil(sum(b), other) {
					t.Fatalf("%d bytes: bits %d and %d aren't turned", len(b), bit, other)
				}
				if x, there := c.Get(sum(b)); there != (((other%n)+n)%n == want) || there && string(x) != b {
					t.Fatalf("%d bytes: bits %d and %d: %q %v", len(b), bit, other, x, there)
				}
				c.Put([]byte(b))
			}
		}
	}
}

func TestWipe(t *testing.T) {
	c := filled(t, 6, "a", "", "bc")
	c.Wipe()
	has(t, c)
	for _, b := range []string{"a", "", "bc"} {
		gone(t, c, b)
	}
	// The limit is as it was.
	for _, b := range []string{"abcdefg", "bc", "a", "defg"} {
		c.Put([]byte(b))
	}
	has(t, c, "a", "defg")
	c.Wipe()
	c.Wipe()
	has(t, c)
}

// kept is a blob that is kept, and whether each of its bits was turned an odd number of times.
type kept struct {
	blob   string
	turned map[int]bool
}

// model is what a cache has, that used longest ago first.
type model struct {
	limit int
	list  []kept
}

// size is how many bytes a model has.
func (m *model) size() int {
	n := 0
	for _, k := range m.list {
		n += len(k.blob)
	}
	return n
}

// take takes a blob out, if it is there.
func (m *model) take(b string) (kept, bool) {
	i := slices.IndexFunc(m.list, func(k kept) bool { return k.blob == b })
	if i < 0 {
		return kept{}, false
	}
	k := m.list[i]
	m.list = slices.Delete(m.list, i, i+1)
	return k, true
}

// put is a cache's Put.
func (m *model) put(b string) {
	m.take(b)
	if len(b) > m.limit {
		return
	}
	for m.size()+len(b) > m.limit {
		m.list = slices.Delete(m.list, 0, 1)
	}
	m.list = append(m.list, kept{b, map[int]bool{}})
}

// get is a cache's Get.
func (m *model) get(b string) bool {
	k, there := m.take(b)
	for _, odd := range k.turned {
		there = there && !odd
	}
	if there {
		m.list = append(m.list, k)
	}
	return there
}

// spoil is a cache's Spoil.
func (m *model) spoil(b string, bit int) bool {
	i := slices.IndexFunc(m.list, func(k kept) bool { return k.blob == b })
	if i < 0 || b == "" {
		return false
	}
	n := 8 * len(b)
	bit = ((bit % n) + n) % n
	m.list[i].turned[bit] = !m.list[i].turned[bit]
	return true
}

// P14.1: in every order of calls; P14.2: never more bytes than the limit, and what is got is of its sum.
func TestManyOrders(t *testing.T) {
	r := rand.New(rand.NewSource(1))
	for range 300 {
		limit := r.Intn(30) - 3
		c := cache.New(limit)
		m := model{limit: max(limit, 0)}
		for range 200 {
			b := string(bytes.Repeat([]byte{byte('a' + r.Intn(3))}, r.Intn(8)))
			bit := r.Intn(200) - 100
			switch r.Intn(20) {
			case 0:
				c.Wipe()
				m.list = nil
			case 1, 2, 3, 4:
				if c.Spoil(sum(b), bit) != m.spoil(b, bit) {
					t.Fatalf("Spoil of %q", b)
				}
			case 5, 6, 7, 8, 9, 10, 11:
				x, there := c.Get(sum(b))
				if there != m.get(b) || there && string(x) != b || !there && len(x) != 0 {
					t.Fatalf("Get of %q: %q %v", b, x, there)
				}
			default:
				if c.Put([]byte(b)) != sum(b) {
					t.Fatalf("Put of %q", b)
				}
				m.put(b)
			}
			var want []string
			for _, k := range m.list {
				want = append(want, k.blob)
			}
			has(t, c, want...)
			if t.Failed() || c.Size() > max(limit, 0) {
				t.Fatalf("%d bytes of %d", c.Size(), limit)
			}
		}
	}
}

func TestBlobsAreNeitherTurnedNorKept(t *testing.T) {
	memory := []byte("abcdef")
	c := cache.New(100)
	c.Put(memory[:3])
	c.Spoil(sum("abc"), 0)
	c.Spoil(sum("abc"), 0)
	if string(memory) != "abcdef" {
		t.Error("what was handed in was turned")
	}
	clear(memory)
	got(t, c, "abc")
	one, _ := c.Get(sum("abc"))
	two, _ := c.Get(sum("abc"))
	clear(one[:cap(one)])
	if string(two) != "abc" {
		t.Error("two answers share memory")
	}
	got(t, c, "abc")
	// Spoilt it is another in the cache alone.
	c.Spoil(sum("abc"), 0)
	if string(two) != "abc" {
		t.Error("an answer was turned")
	}
}

func TestAllIsGoneThroughAgainAndStopped(t *testing.T) {
	blobs := []string{"a", "bc", "", "def"}
	c := filled(t, 10, blobs...)
	all := c.All()
	for stop := range blobs {
		n := 0
		for id := range all {
			if id != sum(blobs[n]) {
				t.Errorf("blob %d", n)
			}
			for range all {
				break
			}
			if n == stop {
				break
			}
			n++
		}
	}
	// What becomes of the cache on the way makes no difference.
	n := 0
	for id := range all {
		c.Get(id)
		c.Put([]byte{byte(n), 1, 2, 3})
		n++
	}
	c.Wipe()
	if n != len(blobs) || len(slices.Collect(all)) != len(blobs) {
		t.Errorf("%d blobs", n)
	}
}
