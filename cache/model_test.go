package cache

import (
	"fmt"
	"math"
	"math/rand"
	"slices"
	"strings"
	"testing"

	"codex/api"
)

// What the document says, written down without the package's own code: a source, and a plain list of what is kept.

func full(s string) string { return strings.Repeat(s, 256) }

// source tells of each block 256 bytes that name it, unless other data or an error are set for it.
type source struct {
	data  map[int]string
	errs  map[int]api.Errno
	asked []int
}

func newSource() *source { return &source{data: map[int]string{}, errs: map[int]api.Errno{}} }

func (s *source) Read(i int) (string, api.Errno) {
	s.asked = append(s.asked, i)
	// Data beside an error, which nobody is to see.
	return s.told(i), s.errs[i]
}

func (s *source) told(i int) string {
	if data, ok := s.data[i]; ok {
		return data
	}
	return named(fmt.Sprint("block ", i))
}

// named is a block of its own for each name.
func named(name string) string { return (name + full("."))[:256] }

type entry struct {
	number int
	data   string
	dirty  bool
	pinned int
}

// plain is a cache as a list, the block used last first.
type plain struct {
	source *source
	most   int
	list   []entry
	misses int
}

func (p *plain) find(i int) int {
	return slices.IndexFunc(p.list, func(x entry) bool { return x.number == i })
}

// room makes room.
func (p *plain) room() api.Errno {
	if len(p.list) < p.most {
		return api.OK
	}
	goes := -1
	for at, x := range p.list {
		if !x.dirty && x.pinned == 0 {
			goes = at
		}
	}
	if goes < 0 {
		return api.ErrPinned
	}
	p.list = append(slices.Clone(p.list[:goes]), p.list[goes+1:]...)
	return api.OK
}

// first is the list with x ahead of it.
func (p *plain) first(x entry) { p.list = append([]entry{x}, p.list...) }

// take is the entry at a place, which is taken out.
func (p *plain) take(at int) entry {
	x := p.list[at]
	p.list = append(slices.Clone(p.list[:at]), p.list[at+1:]...)
	return x
}

// get tells what Get is to answer, and whether the source is to be asked.
func (p *plain) get(i int) (string, api.Errno, bool) {
	if at := p.find(i); at >= 0 {
		x := p.take(at)
		p.first(x)
		return x.data, api.OK, false
	}
	if e := p.source.errs[i]; e != api.OK {
		return "", e, true
	}
	if e := p.room(); e != api.OK {
		return "", e, true
	}
	p.first(entry{number: i, data: p.source.told(i)})
	p.misses++
	return p.source.told(i), api.OK, true
}

func (p *plain) put(i int, data string) api.Errno {
	if len(data) != 256 {
		return api.ErrSize
	}
	x := entry{number: i}
	if at := p.find(i); at >= 0 {
		x = p.take(at)
	} else if e := p.room(); e != api.OK {
		return e
	}
	x.data, x.dirty = data, true
	p.first(x)
	return api.OK
}

func (p *plain) pin(i int) api.Errno {
	at := p.find(i)
	if at < 0 {
		return api.ErrNone
	}
	p.list[at].pinned++
	return api.OK
}

func (p *plain) unpin(i int) api.Errno {
	at := p.find(i)
	if at < 0 {
		return api.ErrNone
	}
	if p.list[at].pinned == 0 {
		return api.ErrPinned
	}
	p.list[at].pinned--
	return api.OK
}

func (p *plain) clean() {
	for at := range p.list {
		p.list[at].dirty = false
	}
}

func (p *plain) drop() {
	var left []entry
	for _, x := range p.list {
		if !x.dirty {
			left = append(left, x)
		}
	}
	p.list = left
}

func (p *plain) blocks() []int {
	var l []int
	for _, x := range p.list {
		l = append(l, x.number)
	}
	return l
}

func (p *plain) dirty() []api.Write {
	var l []api.Write
	for _, x := range p.list {
		if !x.dirty {
			continue
		}
		at := 0
		for at < len(l) && l[at].Block < x.number {
			at++
		}
		l = slices.Insert(l, at, api.Write{Block: x.number, Data: x.data})
	}
	return l
}

// call is one of a row of calls.
type call struct {
	name string
	i    int
	data string
}

func (x call) String() string { return fmt.Sprintf("%s(%d, %.12s)", x.name, x.i, x.data) }

// pair is a cache and what it is to be.
type pair struct {
	c      *Cache
	p      *plain
	source *source
	told   map[string]int // how often a call told an error
}

func newPair(t *testing.T, most int) *pair {
	t.Helper()
	s := newSource()
	return &pair{c: cacheOf(t, s, most), p: &plain{source: s, most: most}, source: s, told: map[string]int{}}
}

// do makes a call of both, and tells how their answers are unlike.
func (b *pair) do(x call) string {
	b.source.asked = nil
	var got, want api.Errno
	var data, wantData string
	var asks bool
	switch x.name {
	case "Get":
		data, got = b.c.Get(x.i)
		wantData, want, asks = b.p.get(x.i)
	case "Put":
		got, want = b.c.Put(x.i, x.data), b.p.put(x.i, x.data)
	case "Pin":
		got, want = b.c.Pin(x.i), b.p.pin(x.i)
	case "Unpin":
		got, want = b.c.Unpin(x.i), b.p.unpin(x.i)
	case "Clean":
		b.c.Clean()
		b.p.clean()
	case "Drop":
		b.c.Drop()
		b.p.drop()
	}
	if got != api.OK {
		b.told[fmt.Sprint(x.name, " ", int(got))]++
	}
	if data != wantData || got != want {
		return fmt.Sprintf("%v: %.12q, %v; want %.12q, %v", x, data, got, wantData, want)
	}
	if asks != slices.Equal(b.source.asked, []int{x.i}) || !asks && len(b.source.asked) > 0 {
		return fmt.Sprintf("%v: the source was asked for %v; want it asked: %v", x, b.source.asked, asks)
	}
	return ""
}

// unlike tells how what is kept is not what it is to be.
func (b *pair) unlike() string {
	b.source.asked = nil
	if l, want := b.c.Blocks(), b.p.blocks(); !slices.Equal(l, want) {
		return fmt.Sprintf("Blocks: %v; want %v", l, want)
	}
	if l, want := b.c.Dirty(), b.p.dirty(); !slices.Equal(l, want) {
		return fmt.Sprintf("Dirty: %.200v; want %.200v", l, want)
	}
	if n := b.c.Misses(); n != b.p.misses {
		return fmt.Sprintf("Misses: %d; want %d", n, b.p.misses)
	}
	if len(b.source.asked) > 0 {
		return fmt.Sprintf("Blocks, Dirty or Misses asked the source for %v", b.source.asked)
	}
	return ""
}

// allCalls are calls of each kind, of a few blocks.
func allCalls(blocks int) []call {
	l := []call{{name: "Clean"}, {name: "Drop"}}
	for i := range blocks {
		l = append(l, call{"Get", i, ""}, call{"Put", i, ""}, call{"Pin", i, ""}, call{"Unpin", i, ""})
	}
	return l
}

// TestEachShortRow makes each row of so many calls of a few blocks.
func TestEachShortRow(t *testing.T) {
	for _, k := range []struct{ most, blocks, long int }{{1, 2, 5}, {2, 3, 5}} {
		t.Run(fmt.Sprint("most ", k.most), func(t *testing.T) {
			t.Parallel()
			calls := allCalls(k.blocks)
			rows := 1
			for range k.long {
				rows *= len(calls)
			}
			for n := range rows {
				b := newPair(t, k.most)
				var row []call
				for range k.long {
					x := calls[n%len(calls)]
					n /= len(calls)
					if x.name == "Put" {
						x.data = full(string(rune('A' + len(row))))
					}
					row = append(row, x)
					if fault := b.do(x); fault != "" {
						t.Fatalf("%v: %s", row, fault)
					}
				}
				if fault := b.unlike(); fault != "" {
					t.Fatalf("%v: %s", row, fault)
				}
			}
		})
	}
}

// chosenCall is a call by chance, of a block of a list.
func chosenCall(r *rand.Rand, numbers []int, dirtying int) call {
	x := call{i: numbers[r.Intn(len(numbers))]}
	switch k := r.Intn(100); {
	case k < 45:
		x.name = "Get"
	case k < 45+dirtying:
		x.name, x.data = "Put", named(fmt.Sprint("put ", r.Intn(1e9)))
		if r.Intn(12) == 0 {
			x.data = strings.Repeat("x", []int{0, 1, 255, 257, 512}[r.Intn(5)])
		}
	case k < 80:
		x.name = "Pin"
		if r.Intn(2) == 0 {
			x.name = "Unpin"
		}
	case k < 94:
		x.name = "Unpin"
	case k < 97:
		x.name = "Clean"
	default:
		x.name = "Drop"
	}
	return x
}

// chosenNumbers are numbers of blocks, the ends of what an int may be among them.
func chosenNumbers(r *rand.Rand, n int) []int {
	l := []int{math.MinInt, math.MaxInt, -1, 0, 1}[:min(n, 5)]
	for len(l) < n {
		l = append(l, r.Intn(4*n)-n)
	}
	return l
}

// change makes the source tell other data, an error, or none.
func (s *source) change(r *rand.Rand, i int) {
	switch r.Intn(3) {
	case 0:
		s.data[i] = named(fmt.Sprint("told ", r.Intn(1e9)))
	case 1:
		s.errs[i] = []api.Errno{api.ErrRange, api.ErrDead, api.ErrPinned, api.ErrNone, api.ErrSize, -1, 99}[r.Intn(7)]
	default:
		delete(s.errs, i)
	}
}

// TestLongRows holds long rows of calls by chance against the plain list.
func TestLongRows(t *testing.T) {
	for n, most := range []int{1, 1, 2, 2, 3, 4, 7, 16, 64, 100} {
		t.Run(fmt.Sprint(n, ": most ", most), func(t *testing.T) {
			t.Parallel()
			r := rand.New(rand.NewSource(int64(n)))
			b := newPair(t, most)
			for range 10 {
				numbers := chosenNumbers(r, most+1+r.Intn(2*most+2))
				dirtying := 1 + r.Intn(20)
				for step := range 2000 {
					if r.Intn(20) == 0 {
						b.source.change(r, numbers[r.Intn(len(numbers))])
					}
					x := chosenCall(r, numbers, dirtying)
					fault := b.do(x)
					if fault == "" {
						fault = b.unlike()
					}
					if fault != "" {
						t.Fatalf("step %d, %v: %s", step, x, fault)
					}
				}
			}
			if b.p.misses < 500 || most <= 16 && b.told["Put 14"] == 0 { // ErrPinned
				t.Errorf("%d misses, %v: the test held too little", b.p.misses, b.told)
			}
		})
	}
}

// TestLongRowsOfTheGreatest is a cache of most 1024, which is filled and emptied.
func TestLongRowsOfTheGreatest(t *testing.T) {
	r := rand.New(rand.NewSource(77))
	b := newPair(t, 1024)
	numbers := chosenNumbers(r, 3000)
	for step := range 30000 {
		x := chosenCall(r, numbers, 10)
		if x.name == "Clean" || x.name == "Drop" {
			if r.Intn(100) > 0 {
				continue
			}
		}
		fault := b.do(x)
		if fault == "" && step%97 == 0 {
			fault = b.unlike()
		}
		if fault != "" {
			t.Fatalf("step %d, %v: %s", step, x, fault)
		}
	}
	if fault := b.unlike(); fault != "" || len(b.p.list) != 1024 {
		t.Errorf("%s, %d are kept", fault, len(b.p.list))
	}
}

// C5: what is told, held against what was put and what the source tells alone: where a dirty block is written to the source ahead of Clean, no block goes unseen.
func TestWhatIsToldIsWhatWasPutLast(t *testing.T) {
	for _, most := range []int{1, 2, 5, 17} {
		r := rand.New(rand.NewSource(int64(most)))
		s := newSource()
		c := cacheOf(t, s, most)
		put, pins := map[int]string{}, map[int]int{}
		told, refused := 0, 0
		for step := range 20000 {
			i := r.Intn(3 * most)
			switch k := r.Intn(100); {
			case k < 50:
				want, ok := put[i]
				if !ok {
					want = s.told(i)
				}
				data, e := c.Get(i)
				if e == api.OK && data != want || e != api.OK && (e != api.ErrPinned || data != "") {
					t.Fatalf("most %d, step %d: Get(%d): %.12q, %v; want %.12q", most, step, i, data, e, want)
				}
				if e == api.OK {
					told++
				} else {
					refused++
				}
			case k < 75:
				data := named(fmt.Sprint("put ", step))
				if c.Put(i, data) == api.OK {
					put[i] = data
				}
			case k < 85:
				if c.Pin(i) == api.OK {
					pins[i]++
				}
			case k < 98:
				if c.Unpin(i) == api.OK {
					pins[i]--
				}
			case k < 99:
				for _, w := range c.Dirty() {
					s.data[w.Block] = w.Data
				}
				c.Clean()
				clear(put)
			default:
				c.Drop()
				for i := range put {
					delete(pins, i)
				}
				clear(put)
			}
			wantStaying(t, c, most, put, pins)
			if t.Failed() {
				t.Fatalf("most %d, step %d", most, step)
			}
		}
		if told < 1000 || refused < 100 {
			t.Errorf("most %d: %d were told, %d refused: the test held too little", most, told, refused)
		}
	}
}

// wantStaying asks that dirty and pinned blocks are kept, each once, and no more than may be.
func wantStaying(t *testing.T, c *Cache, most int, put map[int]string, pins map[int]int) {
	t.Helper()
	l := c.Blocks()
	if len(l) > most {
		t.Errorf("%d blocks are kept; most is %d", len(l), most)
	}
	for at, i := range l {
		if slices.Contains(l[:at], i) {
			t.Errorf("%d is kept twice", i)
		}
	}
	for i := range put {
		if !slices.Contains(l, i) {
			t.Errorf("%d is dirty and not kept", i)
		}
	}
	for i, n := range pins {
		if n > 0 && !slices.Contains(l, i) {
			t.Errorf("%d is pinned and not kept", i)
		}
	}
}
