package cache

import (
	"math"
	"slices"
	"strings"
	"testing"

	"codex/api"
	"codex/block"
)

func cacheOf(t *testing.T, s Source, most int) *Cache {
	t.Helper()
	c, e := New(s, most)
	if c == nil || e != api.OK {
		t.Fatalf("New(.., %d): %v, %v", most, c, e)
	}
	return c
}

// kept is a cache, and its source, that keeps these blocks, clean, the first of them used last.
func kept(t *testing.T, most int, numbers ...int) (*Cache, *source) {
	t.Helper()
	s := newSource()
	c := cacheOf(t, s, most)
	for _, i := range slices.Backward(numbers) {
		wantGet(t, c, i, s.told(i))
	}
	wantBlocks(t, c, numbers...)
	s.asked = nil
	return c, s
}

func wantGet(t *testing.T, c *Cache, i int, want string) {
	t.Helper()
	if data, e := c.Get(i); data != want || e != api.OK {
		t.Errorf("Get(%d): %.20q, %v; want %.20q", i, data, e, want)
	}
}

func wantNoGet(t *testing.T, c *Cache, i int, want api.Errno) {
	t.Helper()
	if data, e := c.Get(i); data != "" || e != want {
		t.Errorf("Get(%d): %.20q, %v; want nothing, %v", i, data, e, want)
	}
}

func wantErrno(t *testing.T, what string, got, want api.Errno) {
	t.Helper()
	if got != want {
		t.Errorf("%s: %v; want %v", what, got, want)
	}
}

func put(t *testing.T, c *Cache, i int, data string) {
	t.Helper()
	wantErrno(t, "Put", c.Put(i, data), api.OK)
}

func pin(t *testing.T, c *Cache, numbers ...int) {
	t.Helper()
	for _, i := range numbers {
		wantErrno(t, "Pin", c.Pin(i), api.OK)
	}
}

func unpin(t *testing.T, c *Cache, numbers ...int) {
	t.Helper()
	for _, i := range numbers {
		wantErrno(t, "Unpin", c.Unpin(i), api.OK)
	}
}

func wantBlocks(t *testing.T, c *Cache, want ...int) {
	t.Helper()
	if l := c.Blocks(); !slices.Equal(l, want) {
		t.Errorf("Blocks: %v; want %v", l, want)
	}
}

func wantDirty(t *testing.T, c *Cache, want ...api.Write) {
	t.Helper()
	if l := c.Dirty(); !slices.Equal(l, want) {
		t.Errorf("Dirty: %.200v; want %.200v", l, want)
	}
}

func wantMisses(t *testing.T, c *Cache, want int) {
	t.Helper()
	if n := c.Misses(); n != want {
		t.Errorf("Misses: %d; want %d", n, want)
	}
}

// wantAsked asks for which blocks the source was asked since it was last asked so.
func wantAsked(t *testing.T, s *source, want ...int) {
	t.Helper()
	if !slices.Equal(s.asked, want) {
		t.Errorf("the source was asked for %v; want %v", s.asked, want)
	}
	s.asked = nil
}

// wr is a write of 256 times a byte.
func wr(i int, s string) api.Write { return api.Write{Block: i, Data: full(s)} }

// C1

func TestNewOutOfRange(t *testing.T) {
	for _, most := range []int{math.MinInt, math.MinInt + 1, -1024, -64, -1, 0, 1025, 4096, 1<<32 + 1, math.MaxInt - 1, math.MaxInt} {
		s := newSource()
		if c, e := New(s, most); c != nil || e != api.ErrRange {
			t.Errorf("New(.., %d): %v, %v; want nil, ErrRange", most, c, e)
		}
		wantAsked(t, s)
	}
}

func TestNewKeepsNothing(t *testing.T) {
	for _, most := range []int{1, 2, 63, 64, 1023, 1024} {
		s := newSource()
		c := cacheOf(t, s, most)
		wantBlocks(t, c)
		wantDirty(t, c)
		wantMisses(t, c, 0)
		wantErrno(t, "Pin", c.Pin(0), api.ErrNone)
		wantErrno(t, "Unpin", c.Unpin(0), api.ErrNone)
		c.Clean()
		c.Drop()
		wantBlocks(t, c)
		wantAsked(t, s)
	}
}

func TestNewKeepsAtMostMost(t *testing.T) {
	for _, most := range []int{1, 2, 3, 64, 1023, 1024} {
		s := newSource()
		c := cacheOf(t, s, most)
		var want []int
		for i := range most + 3 {
			wantGet(t, c, i, s.told(i))
			want = slices.Insert(want, 0, i)[:min(i+1, most)]
			if i < 3 || i > most-3 {
				wantBlocks(t, c, want...)
			}
		}
		wantMisses(t, c, most+3)
		c = cacheOf(t, s, most)
		for i := range most {
			put(t, c, i, full("p"))
		}
		wantErrno(t, "Put without room", c.Put(most, full("p")), api.ErrPinned)
		if n := len(c.Blocks()); n != most {
			t.Errorf("%d blocks are kept; want %d", n, most)
		}
	}
}

func TestCachesAreApart(t *testing.T) {
	s := newSource()
	one, other := cacheOf(t, s, 2), cacheOf(t, s, 2)
	wantGet(t, one, 1, s.told(1))
	put(t, one, 2, full("p"))
	pin(t, one, 1)
	wantBlocks(t, other)
	wantDirty(t, other)
	wantMisses(t, other, 0)
	wantErrno(t, "Unpin", other.Unpin(1), api.ErrNone)
	wantGet(t, other, 2, s.told(2))
	other.Drop()
	other.Clean()
	wantBlocks(t, one, 2, 1)
	wantDirty(t, one, wr(2, "p"))
	wantMisses(t, one, 1)
}

// C2: Get

func TestGetOfAKeptBlock(t *testing.T) {
	c, s := kept(t, 4, 4, 3, 2, 1)
	put(t, c, 2, full("p"))
	pin(t, c, 3)
	put(t, c, 4, full("q"))
	pin(t, c, 4)
	wantBlocks(t, c, 4, 2, 3, 1)
	wantGet(t, c, 1, s.told(1)) // clean
	wantBlocks(t, c, 1, 4, 2, 3)
	wantGet(t, c, 2, full("p")) // dirty
	wantBlocks(t, c, 2, 1, 4, 3)
	wantGet(t, c, 3, s.told(3)) // pinned
	wantBlocks(t, c, 3, 2, 1, 4)
	wantGet(t, c, 4, full("q")) // both
	wantBlocks(t, c, 4, 3, 2, 1)
	wantGet(t, c, 4, full("q")) // the one used last already
	wantBlocks(t, c, 4, 3, 2, 1)
	wantAsked(t, s)
	wantMisses(t, c, 4)
	wantDirty(t, c, wr(2, "p"), wr(4, "q"))
	wantErrno(t, "Unpin of the pinned one", c.Unpin(3), api.OK)
	wantErrno(t, "Unpin of the pinned one, once more", c.Unpin(3), api.ErrPinned)
}

func TestGetWithRoom(t *testing.T) {
	c, s := kept(t, 3)
	wantGet(t, c, 7, s.told(7))
	wantAsked(t, s, 7)
	wantBlocks(t, c, 7)
	wantMisses(t, c, 1)
	wantDirty(t, c) // it is clean
	wantErrno(t, "Unpin", c.Unpin(7), api.ErrPinned)
	wantGet(t, c, 5, s.told(5))
	wantGet(t, c, 7, s.told(7))
	wantAsked(t, s, 5)
	wantBlocks(t, c, 7, 5)
	wantMisses(t, c, 2)
}

func TestGetWithoutRoom(t *testing.T) {
	c, s := kept(t, 3, 3, 2, 1)
	wantGet(t, c, 4, s.told(4))
	wantBlocks(t, c, 4, 3, 2) // the one used longest ago went
	wantAsked(t, s, 4)
	wantMisses(t, c, 4)
	wantErrno(t, "Pin of the one that went", c.Pin(1), api.ErrNone)
	wantGet(t, c, 1, s.told(1))
	wantAsked(t, s, 1)
	wantBlocks(t, c, 1, 4, 3)
	wantGet(t, c, 3, s.told(3)) // used, so it is not the next one that goes
	wantGet(t, c, 9, s.told(9))
	wantBlocks(t, c, 9, 3, 1)
}

func TestWhichBlockGoes(t *testing.T) {
	for _, x := range []struct {
		dirty, pinned []int
		want          []int // behind Get(9), of 5 4 3 2 1
	}{
		{nil, nil, []int{9, 5, 4, 3, 2}},
		{nil, []int{1}, []int{9, 5, 4, 3, 1}},
		{nil, []int{1, 2, 3}, []int{9, 5, 3, 2, 1}},
		{nil, []int{2}, []int{9, 5, 4, 3, 2}},
		{nil, []int{1, 2, 3, 4}, []int{9, 4, 3, 2, 1}},
		{nil, []int{1, 3, 5}, []int{9, 5, 4, 3, 1}},
		{nil, []int{1, 1, 2}, []int{9, 5, 4, 2, 1}},
		{[]int{1}, nil, []int{9, 1, 5, 4, 3}},
		{[]int{1, 2, 3, 4}, nil, []int{9, 4, 3, 2, 1}},
		{[]int{5, 4}, nil, []int{9, 4, 5, 3, 2}},
		{[]int{3}, []int{1, 3}, []int{9, 3, 5, 4, 1}},
		{[]int{4, 2}, []int{1, 3}, []int{9, 2, 4, 3, 1}},
		{[]int{5, 4, 3, 2}, []int{2, 3, 4, 5}, []int{9, 2, 3, 4, 5}},
	} {
		c, s := kept(t, 5, 5, 4, 3, 2, 1)
		for _, i := range x.dirty {
			put(t, c, i, full("p"))
		}
		pin(t, c, x.pinned...)
		wantGet(t, c, 9, s.told(9))
		wantBlocks(t, c, x.want...)
		if t.Failed() {
			t.Fatalf("dirty %v, pinned %v", x.dirty, x.pinned)
		}
	}
}

// A dirty block stands where it was used, though it is older than those that may go.
func TestOlderDirtyAndPinnedBlocksStay(t *testing.T) {
	c, s := kept(t, 4)
	put(t, c, 1, full("p"))
	wantGet(t, c, 2, s.told(2))
	pin(t, c, 2)
	for i := 10; i < 20; i++ {
		wantGet(t, c, i, s.told(i))
	}
	wantBlocks(t, c, 19, 18, 2, 1)
	c.Clean()
	wantGet(t, c, 20, s.told(20))
	wantBlocks(t, c, 20, 19, 18, 2) // now it was the one used longest ago
	unpin(t, c, 2)
	wantGet(t, c, 21, s.told(21))
	wantBlocks(t, c, 21, 20, 19, 18)
}

func TestGetWhereTheSourceErrs(t *testing.T) {
	for _, e := range []api.Errno{api.ErrArg, api.ErrRange, api.ErrSize, api.ErrDead, api.ErrNone, api.ErrPinned, api.ErrQuery, -1, 99, math.MaxInt} {
		for _, most := range []int{3, 4} { // without room, and with it
			c, s := kept(t, most, 3, 2, 1)
			put(t, c, 2, full("p"))
			pin(t, c, 3)
			s.errs[9] = e
			wantNoGet(t, c, 9, e)
			wantAsked(t, s, 9)
			wantBlocks(t, c, 2, 3, 1)
			wantDirty(t, c, wr(2, "p"))
			wantMisses(t, c, 3)
			wantNoGet(t, c, 9, e)
			wantAsked(t, s, 9) // it is asked anew
			wantErrno(t, "Pin", c.Pin(9), api.ErrNone)
			s.errs[1] = e
			wantGet(t, c, 1, s.told(1)) // it is kept: the source is not asked
			wantAsked(t, s)
			delete(s.errs, 9)
			wantGet(t, c, 9, s.told(9))
			wantAsked(t, s, 9)
			wantMisses(t, c, 4)
		}
	}
}

// The source is asked ahead of making room, so its error is told, and it is asked though there is no room.
func TestGetWhereNoRoomCanBeMade(t *testing.T) {
	for what, fill := range map[string]func(c *Cache){
		"dirty":       func(c *Cache) { put(t, c, 1, full("p")); put(t, c, 2, full("q")) },
		"pinned":      func(c *Cache) { pin(t, c, 1, 2) },
		"both":        func(c *Cache) { put(t, c, 1, full("p")); put(t, c, 2, full("q")); pin(t, c, 1, 2) },
		"one of each": func(c *Cache) { put(t, c, 1, full("p")); pin(t, c, 2) },
	} {
		c, s := kept(t, 2, 2, 1)
		fill(c)
		blocks, dirty := c.Blocks(), c.Dirty()
		wantNoGet(t, c, 9, api.ErrPinned)
		wantAsked(t, s, 9)
		s.errs[8] = api.ErrDead
		wantNoGet(t, c, 8, api.ErrDead)
		wantAsked(t, s, 8)
		wantBlocks(t, c, blocks...)
		wantDirty(t, c, dirty...)
		wantMisses(t, c, 2)
		for _, i := range []int{2, 1} { // those that are kept are told as ever
			if _, e := c.Get(i); e != api.OK {
				t.Errorf("Get(%d): %v", i, e)
			}
			wantBlocks(t, c, i, 3-i)
		}
		wantAsked(t, s)
		wantMisses(t, c, 2)
		if t.Failed() {
			t.Fatal(what)
		}
	}
}

func TestASourceWhoseDataChange(t *testing.T) {
	c, s := kept(t, 2, 2, 1)
	was := s.told(1)
	s.data[1] = full("n")
	wantGet(t, c, 1, was) // kept
	wantAsked(t, s)
	wantGet(t, c, 3, s.told(3))
	wantGet(t, c, 4, s.told(4))
	wantGet(t, c, 1, full("n")) // it went, and is asked for anew
	wantAsked(t, s, 3, 4, 1)
	put(t, c, 1, full("p"))
	s.data[1] = full("m")
	wantGet(t, c, 1, full("p"))
	c.Drop()
	wantGet(t, c, 1, full("m"))
	wantAsked(t, s, 1)
}

// What the source tells is told and kept as it is, of whatever size.
func TestASourceOfOtherSizes(t *testing.T) {
	for _, size := range []int{0, 1, 255, 257, 5000} {
		c, s := kept(t, 1)
		s.data[1] = strings.Repeat("s", size)
		wantGet(t, c, 1, s.data[1])
		wantGet(t, c, 1, s.data[1])
		wantAsked(t, s, 1)
		wantBlocks(t, c, 1)
		wantMisses(t, c, 1)
		wantDirty(t, c)
	}
}

// C2: Put

func TestPutOfOtherSizes(t *testing.T) {
	for _, size := range []int{0, 1, 128, 255, 257, 512, 65792} {
		c, s := kept(t, 3, 2, 1)
		put(t, c, 1, full("p"))
		for _, i := range []int{1, 2, 9, -1, math.MaxInt} {
			wantErrno(t, "Put of another size", c.Put(i, strings.Repeat("x", size)), api.ErrSize)
		}
		wantBlocks(t, c, 1, 2)
		wantDirty(t, c, wr(1, "p"))
		wantGet(t, c, 2, s.told(2))
		wantAsked(t, s)
		wantMisses(t, c, 2)
	}
}

func TestPutOfABlockThatIsNotKept(t *testing.T) {
	c, s := kept(t, 3, 2, 1)
	s.errs[7], s.errs[8] = api.ErrDead, api.ErrRange // it is not asked, so its errors are not told
	put(t, c, 7, full("p"))                          // with room
	wantBlocks(t, c, 7, 2, 1)
	wantDirty(t, c, wr(7, "p"))
	put(t, c, 8, full("q")) // without
	wantBlocks(t, c, 8, 7, 2)
	wantDirty(t, c, wr(7, "p"), wr(8, "q"))
	wantErrno(t, "Unpin", c.Unpin(8), api.ErrPinned)
	wantGet(t, c, 7, full("p"))
	wantGet(t, c, 8, full("q"))
	wantAsked(t, s)
	wantMisses(t, c, 2)
}

func TestPutOfABlockThatIsKept(t *testing.T) {
	c, s := kept(t, 3, 3, 2, 1)
	put(t, c, 1, full("p")) // none goes, though there is no room
	wantBlocks(t, c, 1, 3, 2)
	wantDirty(t, c, wr(1, "p"))
	put(t, c, 2, full("q"))
	put(t, c, 1, full("r")) // a dirty one
	wantBlocks(t, c, 1, 2, 3)
	wantDirty(t, c, wr(1, "r"), wr(2, "q"))
	put(t, c, 3, full("s")) // now all are dirty, and yet each can be put
	put(t, c, 2, full("t"))
	wantBlocks(t, c, 2, 3, 1)
	wantDirty(t, c, wr(1, "r"), wr(2, "t"), wr(3, "s"))
	wantGet(t, c, 1, full("r"))
	wantAsked(t, s)
	wantMisses(t, c, 3)
}

// Data that are those that are kept make a block dirty too.
func TestPutOfTheSameData(t *testing.T) {
	c, s := kept(t, 2, 2, 1)
	put(t, c, 1, s.told(1))
	wantBlocks(t, c, 1, 2)
	wantDirty(t, c, api.Write{Block: 1, Data: s.told(1)})
}

func TestPutOfAPinnedBlock(t *testing.T) {
	c, s := kept(t, 2, 2, 1)
	pin(t, c, 1, 1)
	put(t, c, 1, full("p"))
	c.Clean()
	wantGet(t, c, 3, s.told(3))
	wantGet(t, c, 4, s.told(4))
	wantBlocks(t, c, 4, 1) // it is still pinned
	unpin(t, c, 1, 1)
	wantErrno(t, "Unpin more often than Pin", c.Unpin(1), api.ErrPinned)
	wantGet(t, c, 1, full("p"))
	wantGet(t, c, 4, s.told(4))
	wantGet(t, c, 5, s.told(5))
	wantBlocks(t, c, 5, 4)
}

func TestPutWhereNoRoomCanBeMade(t *testing.T) {
	c, s := kept(t, 2, 2, 1)
	put(t, c, 1, full("p"))
	pin(t, c, 2)
	wantErrno(t, "Put", c.Put(9, full("x")), api.ErrPinned)
	wantErrno(t, "Put of another size", c.Put(9, "x"), api.ErrSize) // which is asked first
	wantErrno(t, "Put of nothing", c.Put(9, ""), api.ErrSize)
	wantBlocks(t, c, 1, 2)
	wantDirty(t, c, wr(1, "p"))
	wantErrno(t, "Pin", c.Pin(9), api.ErrNone)
	wantMisses(t, c, 2)
	wantAsked(t, s)
	unpin(t, c, 2)
	put(t, c, 9, full("x"))
	wantBlocks(t, c, 9, 1)
	wantDirty(t, c, wr(1, "p"), wr(9, "x"))
	wantErrno(t, "Put where all are dirty", c.Put(8, full("x")), api.ErrPinned)
	wantBlocks(t, c, 9, 1)
}

// C3

func TestPinAndUnpin(t *testing.T) {
	c, s := kept(t, 3, 3, 2, 1)
	for range 5 {
		pin(t, c, 1)
	}
	pin(t, c, 2)
	for k := range 5 {
		wantGet(t, c, 10+k, s.told(10+k)) // it stays, however often it was let go of but for the last time
		wantBlocks(t, c, 10+k, 2, 1)
		unpin(t, c, 1)
	}
	wantErrno(t, "Unpin more often than Pin", c.Unpin(1), api.ErrPinned)
	wantErrno(t, "Unpin more often than Pin, once more", c.Unpin(1), api.ErrPinned)
	pin(t, c, 1) // which is not less for it
	wantGet(t, c, 20, s.told(20))
	wantBlocks(t, c, 20, 2, 1)
	unpin(t, c, 1)
	wantGet(t, c, 21, s.told(21))
	wantBlocks(t, c, 21, 20, 2)
}

func TestPinOfABlockThatIsNotKept(t *testing.T) {
	for _, most := range []int{2, 3} {
		c, s := kept(t, most, 2, 1)
		for _, i := range []int{0, 3, -1, -2, 1 << 32, math.MinInt, math.MaxInt} {
			wantErrno(t, "Pin", c.Pin(i), api.ErrNone)
			wantErrno(t, "Unpin", c.Unpin(i), api.ErrNone)
		}
		wantBlocks(t, c, 2, 1)
		wantDirty(t, c)
		wantMisses(t, c, 2)
		wantAsked(t, s)
		wantGet(t, c, 3, s.told(3))
		wantErrno(t, "Unpin of one that was none when it was to be pinned", c.Unpin(3), api.ErrPinned)
	}
}

func TestPinIsNoUse(t *testing.T) {
	c, s := kept(t, 3, 3, 2, 1)
	pin(t, c, 1)
	wantBlocks(t, c, 3, 2, 1)
	unpin(t, c, 1)
	wantBlocks(t, c, 3, 2, 1)
	wantErrno(t, "Unpin more often than Pin", c.Unpin(1), api.ErrPinned)
	wantBlocks(t, c, 3, 2, 1)
	wantGet(t, c, 4, s.told(4))
	wantBlocks(t, c, 4, 3, 2)
	wantMisses(t, c, 4)
	wantDirty(t, c)
}

// A block that went is kept anew without its pins.
func TestPinsGoWithTheirBlock(t *testing.T) {
	c, s := kept(t, 2, 1)
	pin(t, c, 1, 1)
	put(t, c, 1, full("p"))
	c.Drop()
	wantErrno(t, "Unpin behind Drop", c.Unpin(1), api.ErrNone)
	wantGet(t, c, 1, s.told(1))
	wantErrno(t, "Unpin of one that is kept anew", c.Unpin(1), api.ErrPinned)
	put(t, c, 1, full("p"))
	pin(t, c, 1)
	c.Drop()
	put(t, c, 1, full("q"))
	wantErrno(t, "Unpin of one that is put anew", c.Unpin(1), api.ErrPinned)
}

func TestNumbersOfBlocks(t *testing.T) {
	numbers := []int{math.MinInt, math.MinInt + 1, -1 << 32, -1, 0, 1, 4096, 1 << 32, math.MaxInt - 1, math.MaxInt}
	c, s := kept(t, 10)
	var want []int
	for _, i := range numbers {
		wantGet(t, c, i, s.told(i))
		want = slices.Insert(want, 0, i)
	}
	wantAsked(t, s, numbers...)
	wantBlocks(t, c, want...)
	var writes []api.Write
	for _, i := range want {
		put(t, c, i, full("p"))
		pin(t, c, i)
		unpin(t, c, i)
		writes = slices.Insert(writes, 0, wr(i, "p"))
	}
	wantBlocks(t, c, numbers...)
	wantDirty(t, c, writes...)
	wantNoGet(t, c, 2, api.ErrPinned)
	c.Drop()
	wantBlocks(t, c)
	wantMisses(t, c, 10)
}

// C4

func TestDirty(t *testing.T) {
	c, s := kept(t, 9, 8, 3)
	wantDirty(t, c) // none
	for _, i := range []int{5, -7, 12, 0, -1, 3} {
		put(t, c, i, full("a"))
	}
	wantDirty(t, c, wr(-7, "a"), wr(-1, "a"), wr(0, "a"), wr(3, "a"), wr(5, "a"), wr(12, "a"))
	put(t, c, 0, full("b"))
	put(t, c, 12, full("c"))
	put(t, c, 12, full("d"))
	wantDirty(t, c, wr(-7, "a"), wr(-1, "a"), wr(0, "b"), wr(3, "a"), wr(5, "a"), wr(12, "d"))
	wantBlocks(t, c, 12, 0, 3, -1, -7, 5, 8) // it is no use
	pin(t, c, 5)
	wantGet(t, c, -7, full("a"))
	wantDirty(t, c, wr(-7, "a"), wr(-1, "a"), wr(0, "b"), wr(3, "a"), wr(5, "a"), wr(12, "d"))
	wantAsked(t, s)
}

func TestDirtyOfMany(t *testing.T) {
	c, _ := kept(t, 1024)
	var want []api.Write
	for i := range 1024 {
		put(t, c, i*389%1024-500, named("many"))
		want = append(want, api.Write{Block: i - 500, Data: named("many")})
	}
	wantDirty(t, c, want...)
}

func TestClean(t *testing.T) {
	c, s := kept(t, 3, 3, 2, 1)
	put(t, c, 1, full("p"))
	put(t, c, 2, full("q"))
	pin(t, c, 2)
	c.Clean()
	wantDirty(t, c)
	wantBlocks(t, c, 2, 1, 3) // it is no use, and none goes
	wantGet(t, c, 1, full("p"))
	wantGet(t, c, 2, full("q"))
	wantBlocks(t, c, 2, 1, 3)
	wantAsked(t, s)
	wantMisses(t, c, 3)
	wantGet(t, c, 4, s.told(4)) // 3 goes, then 1, which was dirty; 2 is pinned still
	wantGet(t, c, 5, s.told(5))
	wantGet(t, c, 6, s.told(6))
	wantBlocks(t, c, 6, 5, 2)
	wantGet(t, c, 1, s.told(1)) // as it went
	put(t, c, 1, full("r"))
	wantDirty(t, c, wr(1, "r"))
	c.Clean()
	c.Clean()
	wantDirty(t, c)
	c.Drop() // of none
	wantBlocks(t, c, 1, 6, 2)
	wantGet(t, c, 1, full("r"))
}

func TestDrop(t *testing.T) {
	c, s := kept(t, 5, 5, 4, 3, 2, 1)
	c.Drop() // none is dirty
	wantBlocks(t, c, 5, 4, 3, 2, 1)
	put(t, c, 2, full("p"))
	put(t, c, 4, full("q"))
	pin(t, c, 4, 4)
	pin(t, c, 3)
	c.Drop() // some, one of them pinned
	wantBlocks(t, c, 5, 3, 1)
	wantDirty(t, c)
	wantErrno(t, "Unpin of a dropped one", c.Unpin(4), api.ErrNone)
	wantErrno(t, "Unpin of one that stays", c.Unpin(3), api.OK)
	wantMisses(t, c, 5)
	wantAsked(t, s)
	wantGet(t, c, 2, s.told(2)) // with room
	wantGet(t, c, 4, s.told(4))
	wantBlocks(t, c, 4, 2, 5, 3, 1)
	wantAsked(t, s, 2, 4)
	wantMisses(t, c, 7)
	for i := 1; i <= 5; i++ {
		put(t, c, i, full("r"))
	}
	pin(t, c, 1, 5)
	c.Drop() // all
	wantBlocks(t, c)
	wantDirty(t, c)
	wantMisses(t, c, 7)
	c.Drop()
	wantGet(t, c, 1, s.told(1))
	wantAsked(t, s, 1)
	wantBlocks(t, c, 1)
}

// A block that was put and made clean is no longer dropped.
func TestDropBehindClean(t *testing.T) {
	c, s := kept(t, 3)
	put(t, c, 1, full("p"))
	c.Clean()
	put(t, c, 2, full("q"))
	c.Drop()
	wantBlocks(t, c, 1)
	wantGet(t, c, 1, full("p"))
	put(t, c, 1, full("r")) // dirty anew
	c.Drop()
	wantBlocks(t, c)
	wantGet(t, c, 1, s.told(1))
}

func TestMissesCountWhatWasKept(t *testing.T) {
	c, s := kept(t, 2)
	s.errs[5] = api.ErrDead
	steps := []struct {
		do   func()
		want int
	}{
		{func() { c.Get(1) }, 1},
		{func() { c.Get(1) }, 1},
		{func() { c.Get(5) }, 1},
		{func() { c.Put(2, full("p")) }, 1},
		{func() { c.Get(2) }, 1},
		{func() { c.Put(3, "x") }, 1},
		{func() { c.Pin(1) }, 1},
		{func() { c.Get(3) }, 1}, // ErrPinned
		{func() { c.Get(5) }, 1},
		{func() { c.Put(3, full("p")) }, 1},
		{func() { c.Clean() }, 1},
		{func() { c.Get(3) }, 2}, // 2 goes
		{func() { c.Get(2) }, 3},
		{func() { c.Put(2, full("q")) }, 3},
		{func() { c.Drop() }, 3},
		{func() { c.Unpin(1) }, 3},
		{func() { c.Unpin(1) }, 3},
		{func() { c.Dirty() }, 3},
		{func() { c.Blocks() }, 3},
		{func() { c.Get(2) }, 4},
		{func() { c.Get(1) }, 4},
	}
	for k, x := range steps {
		x.do()
		if n := c.Misses(); n != x.want {
			t.Errorf("Misses behind step %d: %d; want %d", k, n, x.want)
		}
	}
	wantAsked(t, s, 1, 5, 3, 5, 3, 2, 2)
}

// C5, P3, P4

func TestTheLeastCache(t *testing.T) {
	c, s := kept(t, 1)
	wantGet(t, c, 1, s.told(1))
	wantGet(t, c, 2, s.told(2))
	wantBlocks(t, c, 2)
	pin(t, c, 2)
	wantNoGet(t, c, 1, api.ErrPinned)
	wantErrno(t, "Put", c.Put(1, full("p")), api.ErrPinned)
	wantGet(t, c, 2, s.told(2))
	put(t, c, 2, full("p"))
	unpin(t, c, 2)
	wantNoGet(t, c, 1, api.ErrPinned) // dirty still
	wantGet(t, c, 2, full("p"))
	c.Drop()
	wantBlocks(t, c)
	put(t, c, 3, full("q"))
	c.Clean()
	wantGet(t, c, 3, full("q"))
	put(t, c, 4, full("r"))
	wantBlocks(t, c, 4)
	wantDirty(t, c, wr(4, "r"))
	wantMisses(t, c, 2)
	c.Clean()
	wantGet(t, c, 3, s.told(3))
	wantBlocks(t, c, 3)
	wantMisses(t, c, 3)
}

func TestRowsThatWereToldStayAsTheyAre(t *testing.T) {
	c, s := kept(t, 3, 3, 2, 1)
	put(t, c, 2, full("p"))
	put(t, c, 1, full("q"))
	blocks, dirty := c.Blocks(), c.Dirty()
	asTold := func(what string) {
		t.Helper()
		if !slices.Equal(blocks, []int{1, 2, 3}) {
			t.Errorf("Blocks that were told are %v behind %s", blocks, what)
		}
		if !slices.Equal(dirty, []api.Write{wr(1, "q"), wr(2, "p")}) {
			t.Errorf("Dirty that was told is another one behind %s", what)
		}
	}
	c.Get(2)
	asTold("Get")
	c.Get(9)
	asTold("Get of another one")
	c.Put(2, full("r"))
	asTold("Put")
	c.Blocks()
	c.Dirty()
	asTold("another row")
	c.Clean()
	asTold("Clean")
	c.Put(1, full("s"))
	c.Put(8, full("s"))
	c.Drop()
	asTold("Drop")
	c.Get(4)
	c.Put(5, full("t"))
	asTold("more")
	wantBlocks(t, c, 5, 4, 2)
	wantGet(t, c, 2, full("r"))
	wantMisses(t, c, 5)
	wantAsked(t, s, 9, 4)
}

func TestChangedRowsChangeNothing(t *testing.T) {
	c, s := kept(t, 4, 3, 2, 1)
	put(t, c, 2, full("p"))
	put(t, c, 1, full("q"))
	blocks, dirty := c.Blocks(), c.Dirty()
	for i := range blocks {
		blocks[i] = 77
	}
	for i := range dirty {
		dirty[i] = wr(77, "x")
	}
	_ = append(blocks, 78)
	_ = append(blocks[:1], 78, 79)
	_ = append(dirty[:1], wr(78, "x"))
	wantBlocks(t, c, 1, 2, 3)
	wantDirty(t, c, wr(1, "q"), wr(2, "p"))
	wantGet(t, c, 3, s.told(3))
	wantGet(t, c, 4, s.told(4))
	wantBlocks(t, c, 4, 3, 1, 2)
	blocks[0] = 80
	wantBlocks(t, c, 4, 3, 1, 2)
}

// A device is a source; what is kept is told though its power is gone.
func TestADeviceAsSource(t *testing.T) {
	d, _ := block.New(4)
	d.Write(1, full("a"))
	c := cacheOf(t, d, 2)
	wantGet(t, c, 1, full("a"))
	wantNoGet(t, c, 4, api.ErrRange)
	wantNoGet(t, c, -1, api.ErrRange)
	put(t, c, 3, full("b"))
	for _, w := range c.Dirty() {
		d.Write(w.Block, w.Data)
	}
	c.Clean()
	wantGet(t, c, 0, full("\x00"))
	wantGet(t, c, 1, full("a"))
	wantGet(t, c, 3, full("b"))
	d.Fuse(0)
	d.Flush()
	wantNoGet(t, c, 2, api.ErrDead)
	wantGet(t, c, 1, full("a"))
	put(t, c, 9, full("c"))
	wantBlocks(t, c, 9, 1)
	wantMisses(t, c, 4)
}

// The document's examples

func TestExamples(t *testing.T) {
	s := newSource()
	for i := range 5 {
		s.data[i] = full(string([]byte{byte(i)}))
	}
	c := cacheOf(t, s, 2)
	for _, i := range []int{1, 2, 1, 3} {
		wantGet(t, c, i, s.data[i])
	}
	wantBlocks(t, c, 3, 1)
	wantMisses(t, c, 3)
	pin(t, c, 1)
	put(t, c, 3, full("p"))
	wantNoGet(t, c, 4, api.ErrPinned)
	c.Clean()
	wantGet(t, c, 4, s.data[4])
	wantBlocks(t, c, 4, 1)
	wantErrno(t, "Unpin(4)", c.Unpin(4), api.ErrPinned)
	wantErrno(t, "Unpin(9)", c.Unpin(9), api.ErrNone)
}
