package store_test

import (
	"fmt"
	"math"
	"math/rand"
	"slices"
	"strings"
	"testing"

	"codex/api"
	"codex/block"
	"codex/journal"
	"codex/store"
)

// Examples

func TestExamples(t *testing.T) {
	d, _ := block.New(128)
	wantErrno(t, "Format", store.Format(d), api.OK)
	s := open(t, d, 64)
	if s.First() != 64 || s.Free() != 64 {
		t.Fatalf("First %d, Free %d", s.First(), s.Free())
	}
	_, e := s.Alloc(2)
	wantErrno(t, "Alloc without a transaction", e, api.ErrState)
	wantErrno(t, "Begin", s.Begin(), api.OK)
	at, e := s.Alloc(2)
	if at != 64 || e != api.OK {
		t.Fatalf("Alloc(2): %d, %v", at, e)
	}
	wantErrno(t, "Write(64)", s.Write(64, full("a")), api.OK)
	wantErrno(t, "Write(66)", s.Write(66, full("a")), api.ErrNone)
	wantErrno(t, "Commit", s.Commit(), api.OK)
	if l := s.Used(); !slices.Equal(l, []api.Extent{{Start: 64, Count: 2}}) {
		t.Fatalf("Used: %v", l)
	}
	wantErrno(t, "Begin", s.Begin(), api.OK)
	wantErrno(t, "Release", s.Release(64, 1), api.OK)
	_, e = s.Alloc(64)
	wantErrno(t, "Alloc(64)", e, api.ErrFull)
	s.Abort()
	if s.Free() != 62 {
		t.Fatalf("Free: %d", s.Free())
	}
}

// S1

func TestFormatOfFewBlocks(t *testing.T) {
	for _, n := range []int{1, 2, 52, 61, 62, 63, 64, 65, 100, 126, 127} {
		d, want := filled(t, n), filled(t, n)
		d.Fuse(0)
		wantErrno(t, "Format", store.Format(d), api.ErrRange)
		wantDevice(t, fmt.Sprint("Format of ", n), d, want) // it had no turn
		kill(t, d)
		wantErrno(t, "Format without power", store.Format(d), api.ErrRange)
	}
}

func TestFormatBytes(t *testing.T) {
	for _, n := range []int{128, 129, 200, 2047, 2048, 2049, 4095, 4096} {
		d, twin := filled(t, n), filled(t, n)
		lay := d.Disk()
		wantErrno(t, "Format", store.Format(d), api.OK)
		wantErrno(t, "Format, by the journal", formatByJournal(twin), api.OK)
		wantDevice(t, fmt.Sprint("Format of ", n), d, twin)
		d.Flush()
		disk := d.Disk()
		for _, w := range homeOf(fresh(n)) {
			if disk[w.Block] != w.Data {
				t.Fatalf("Format of %d: on block %d lies %q; want %q", n, w.Block, disk[w.Block], w.Data)
			}
		}
		if !slices.Equal(disk[firstOf(n):], lay[firstOf(n):]) {
			t.Fatalf("Format of %d wrote data blocks", n)
		}
	}
}

func TestFormatHomeByHand(t *testing.T) {
	ones := strings.Repeat("\xff", 8)
	for _, c := range []struct {
		n    int
		want []string // from the block 62 on
	}{
		{128, []string{"CDXB\x80\x00\x00\x00", ones, ""}},
		{2048, []string{"CDXB\x00\x08\x00\x00", ones, ""}},
		{2049, []string{"CDXB\x01\x08\x00\x00", ones + "\x01", "", ""}},
		{4096, []string{"CDXB\x00\x10\x00\x00", ones + "\x01", "", ""}},
	} {
		d, _ := formatted(t, c.n)
		for k, begin := range c.want {
			if x, e := d.Read(62 + k); x != begin+nought[len(begin):] || e != api.OK {
				t.Errorf("Format of %d: on block %d lies %q, %v; want %q, and noughts", c.n, 62+k, x, e, begin)
			}
		}
	}
}

// The first error of all that Format does, at each turn.
func TestFormatTurns(t *testing.T) {
	for _, n := range []int{128, 2049} {
		for k := 0; ; k++ {
			d, twin := filled(t, n), filled(t, n)
			d.Write(n-1, full("p"))
			twin.Write(n-1, full("p"))
			d.Fuse(k)
			twin.Fuse(k)
			e, want := store.Format(d), formatByJournal(twin)
			what := fmt.Sprint("Format of ", n, " with a fuse of ", k)
			wantErrno(t, what, e, want)
			wantDevice(t, what, d, twin)
			if e == api.OK {
				if k < 60 {
					t.Fatalf("%s: so few turns", what)
				}
				break
			}
			wantErrno(t, what, e, api.ErrDead)
			d.Crash([]bool{true, k%2 == 0}, -1, 0)
			if s, e := store.Open(d, 64); (e != api.ErrNone && e != api.ErrForm && e != api.OK) || (s == nil) != (e != api.OK) {
				t.Fatalf("%s, then Open: %v, %v", what, s, e)
			}
		}
	}
}

func TestFormatWithoutPower(t *testing.T) {
	d, want := filled(t, 128), filled(t, 128)
	kill(t, d)
	kill(t, want)
	wantErrno(t, "Format", store.Format(d), api.ErrDead)
	wantDevice(t, "Format without power", d, want)
}

func TestFormatAgain(t *testing.T) {
	b := newPair(t, 2100, 64)
	b.row(t, begin(), alloc(2000), write(64+1, full("a")), write(2060, full("b")), commit())
	wantErrno(t, "Format again", store.Format(b.d), api.OK)
	p := plainOf(2100)
	p.data[65], p.data[2060] = full("a"), full("b")
	wantStore(t, "Format again", open(t, b.d, 64), p)
	b.d.Crash(nil, -1, 0)
	wantStore(t, "Format again, and a crash", open(t, b.d, 64), p)
}

// S2

func TestOpenMost(t *testing.T) {
	d, _ := formatted(t, 128)
	d.Flush()
	for _, most := range []int{math.MinInt, math.MinInt + 1, -64, -1, 0, 1, 63, 1025, 4096, 1<<32 + 64, math.MaxInt - 1, math.MaxInt} {
		want := copyOf(t, d)
		d.Fuse(0)
		if s, e := store.Open(d, most); s != nil || e != api.ErrRange {
			t.Errorf("Open(.., %d): %v, %v; want nil, ErrRange", most, s, e)
		}
		wantDevice(t, "Open out of range", d, want) // it had no turn
	}
	d.Fuse(-1)
	for _, most := range []int{64, 65, 100, 1023, 1024} {
		wantStore(t, fmt.Sprint("most ", most), open(t, d, most), plainOf(128))
	}
}

func TestOpenTellsTheRangeFirst(t *testing.T) {
	other, _ := block.New(128)
	journal.Format(other, 59)
	dead, _ := formatted(t, 128)
	kill(t, dead)
	label, _ := formatted(t, 128)
	label.Write(62, nought)
	for what, d := range map[string]*block.Device{"not formatted": filled(t, 128), "few blocks": filled(t, 1), "another log": other, "dead": dead, "no label": label} {
		for _, most := range []int{63, 1025} {
			if s, e := store.Open(d, most); s != nil || e != api.ErrRange {
				t.Errorf("%s, %d: %v, %v; want nil, ErrRange", what, most, s, e)
			}
		}
	}
}

func wantNoOpen(t *testing.T, what string, d *block.Device, want api.Errno) {
	t.Helper()
	if s, e := store.Open(d, 64); s != nil || e != want {
		t.Fatalf("%s: Open: %v, %v; want nil, %v", what, s, e, want)
	}
}

func TestOpenWithoutJournal(t *testing.T) {
	for _, n := range []int{1, 2, 63, 127, 128, 4096} {
		wantNoOpen(t, "noughts", deviceOf(t, slices.Repeat([]string{nought}, n)), api.ErrNone)
		wantNoOpen(t, "other bytes", filled(t, n), api.ErrNone)
	}
	// all of a store, but the journal's slots
	d, _ := formatted(t, 128)
	d.Write(0, nought)
	d.Write(1, nought)
	wantNoOpen(t, "no slots", d, api.ErrNone)
}

// Open has the journal's turns, and no other ones; at each of them its error.
func TestOpenTurns(t *testing.T) {
	base := newPair(t, 128, 64)
	base.row(t, begin(), alloc(5), write(66, full("a")), commit())
	base.row(t, begin(), release(65, 1), write(67, full("b")), commit())
	base.crash(nil, -1, 0)
	for _, label := range []string{labelOf(128), full("x")} {
		for k := 0; ; k++ {
			d, twin := copyOf(t, base.d), copyOf(t, base.twin)
			if label != labelOf(128) { // an error of the journal is told ahead of the form
				d.Write(62, label)
				twin.Write(62, label)
			}
			d.Fuse(k)
			twin.Fuse(k)
			s, e := store.Open(d, 64)
			_, want := journal.Open(twin)
			if want == api.OK && label != labelOf(128) {
				want = api.ErrForm
			}
			what := fmt.Sprint("Open with a fuse of ", k)
			wantErrno(t, what, e, want)
			wantDevice(t, what, d, twin)
			if (s == nil) != (e != api.OK) {
				t.Fatalf("%s: %v, %v", what, s, e)
			}
			if want != api.ErrDead {
				break
			}
		}
	}
	kill(t, base.d)
	wantNoOpen(t, "no power", base.d, api.ErrDead)
}

func TestOpenOfOtherLogs(t *testing.T) {
	for _, log := range []int{50, 51, 58, 59, 60, 61, 62, 64, 100, 197} {
		for _, home := range []int{62, 2 + log} { // all else stands as beside a log of 60, or as far behind this log
			d, _ := block.New(200)
			wantErrno(t, "journal.Format", journal.Format(d, log), api.OK)
			for _, w := range homeOf(fresh(200)) {
				d.Write(w.Block-62+home, w.Data)
			}
			if log == 60 {
				wantStore(t, "the log of a store", open(t, d, 64), plainOf(200))
				continue
			}
			wantNoOpen(t, fmt.Sprint("a log of ", log), d, api.ErrForm)
		}
	}
}

func TestOpenOfOtherLabels(t *testing.T) {
	d, _ := formatted(t, 128)
	good := labelOf(128)
	for i := range 256 {
		for _, bits := range []byte{1, 0x20, 0x80, 0xff} {
			d.Write(62, good[:i]+string([]byte{good[i] ^ bits})+good[i+1:])
			wantNoOpen(t, fmt.Sprintf("byte %d of the label turned by %#x", i, bits), d, api.ErrForm)
		}
	}
	for _, n := range []int{0, 127, 129, 256, 2048, 4096, 128 + 1<<8, 128 + 1<<16, 128 + 1<<24} {
		d.Write(62, labelOf(n))
		wantNoOpen(t, fmt.Sprint("the label of ", n), d, api.ErrForm)
	}
	for _, s := range []string{nought, full("\xff"), good[4:] + good[:4], "CDXS" + good[4:], mapOf(fresh(128))[0]} {
		d.Write(62, s)
		wantNoOpen(t, fmt.Sprintf("the label %.8q", s), d, api.ErrForm)
	}
	d.Write(62, good)
	wantStore(t, "the label as it was", open(t, d, 64), plainOf(128))
	// each byte of it lies elsewhere on a device of another size
	for _, n := range []int{129, 255, 256, 2048, 2049, 4096} {
		d, _ := formatted(t, n)
		d.Write(62, good)
		wantNoOpen(t, "the label of 128", d, api.ErrForm)
	}
}

func TestOpenOfOtherBitmaps(t *testing.T) {
	for _, n := range []int{128, 129, 135, 2047, 2048, 2049, 4095, 4096} {
		d, _ := formatted(t, n)
		good := mapOf(fresh(n))
		for i := range 2048 * len(good) {
			if n > 200 && i >= 70 && i < n-10 || i > n+20 && i%97 != 0 && i%2048 != 2047 {
				continue
			}
			k, at := i/2048, i%2048/8
			turned := good[k][:at] + string([]byte{good[k][at] ^ 1<<(i%8)}) + good[k][at+1:]
			d.Write(63+k, turned)
			s, e := store.Open(d, 64)
			want := api.ErrForm
			if i >= firstOf(n) && i < n {
				want = api.OK
			}
			if e != want || (s == nil) != (e != api.OK) {
				t.Fatalf("bit %d of the bitmap of %d turned: %v, %v; want %v", i, n, s, e, want)
			}
			if e == api.OK {
				p := plainOf(n)
				p.used[i] = true
				if s.Free() != p.free() || !slices.Equal(s.Used(), p.extents()) {
					t.Fatalf("bit %d of the bitmap of %d turned: %d, %v", i, n, s.Free(), s.Used())
				}
			}
			d.Write(63+k, good[k])
		}
	}
}

// Any data blocks may be used.
func TestOpenOfAnyDataBits(t *testing.T) {
	r := rand.New(rand.NewSource(3))
	for _, n := range []int{128, 131, 2048, 2049, 4096} {
		for round := range 12 {
			p := plainOf(n)
			for i := p.first; i < n; i++ {
				p.used[i] = round == 0 || round > 1 && r.Intn(round) == 0
			}
			d, _ := formatted(t, n)
			for k, s := range mapOf(p.used) {
				d.Write(63+k, s)
			}
			p.was = p.copied()
			wantStore(t, fmt.Sprint("data bits of ", n), open(t, d, 64), p)
		}
	}
}

// More than one thing wrong is ErrForm too.
func TestOpenOfNoughts(t *testing.T) {
	for _, n := range []int{63, 64, 127, 128, 200, 4096} {
		d, _ := block.New(n)
		wantErrno(t, "journal.Format", journal.Format(d, 60), api.OK)
		wantNoOpen(t, "nothing at home", d, api.ErrForm)
		d.Write(62, labelOf(n))
		wantNoOpen(t, "no bitmap", d, api.ErrForm)
	}
	d, _ := formatted(t, 128)
	d.Write(63, full("\xff"))
	wantNoOpen(t, "all bits on", d, api.ErrForm)
	d, _ = formatted(t, 4096)
	d.Write(63, full("\xff"))
	d.Write(64, full("\xff"))
	if s := open(t, d, 64); s.Free() != 0 || !slices.Equal(s.Used(), []api.Extent{{Start: 65, Count: 4031}}) {
		t.Error("all bits on: ", s.Free(), s.Used())
	}
	d.Write(63, nought)
	wantNoOpen(t, "the first block of the bitmap is lost", d, api.ErrForm)
}

func TestOpenWithoutTransaction(t *testing.T) {
	b := newPair(t, 128, 64)
	b.row(t, begin(), alloc(3), write(64, full("a")))
	b.open(t, 64)
	b.p.undone()
	b.refused(t, commit(), api.ErrState)
	b.refused(t, alloc(1), api.ErrState)
	b.row(t, begin(), alloc(3), commit())
}

// S3

// deadCalls are calls that would err otherwise, or be OK.
func deadCalls(n int) []call {
	l := []call{begin(), commit()}
	for _, i := range []int{math.MinInt, -1, 0, 63, 64, 66, 70, n - 1, n, math.MaxInt} {
		for _, size := range []int{0, 255, 256, 257} {
			l = append(l, write(i, strings.Repeat("x", size)))
		}
		for _, k := range []int{math.MinInt, -1, 0, 1, 2, n, math.MaxInt} {
			l = append(l, release(i, k))
		}
	}
	for _, k := range []int{math.MinInt, -1, 0, 1, 2, n - 64, n, math.MaxInt} {
		l = append(l, alloc(k))
	}
	return l
}

// deadCall makes a call of a store without power.
func deadCall(s *store.Store, x call) (at int, e api.Errno) {
	switch x.name {
	case "Begin":
		e = s.Begin()
	case "Write":
		e = s.Write(x.i, x.data)
	case "Alloc":
		at, e = s.Alloc(x.n)
	case "Release":
		e = s.Release(x.i, x.n)
	case "Commit":
		e = s.Commit()
	}
	return at, e
}

func TestDeadComesFirst(t *testing.T) {
	for _, row := range [][]call{
		{begin(), abort()},
		{begin()},
		{begin(), alloc(4), release(66, 1), write(64, full("b"))},
	} {
		b := newPair(t, 128, 64)
		b.row(t, begin(), alloc(3), write(65, full("a")), commit())
		b.row(t, row...)
		kill(t, b.d)
		kill(t, b.twin)
		for _, x := range deadCalls(128) {
			if at, e := deadCall(b.s, x); at != 0 || e != api.ErrDead {
				t.Fatalf("%v without power: %d, %v; want 0, ErrDead", x, at, e)
			}
		}
		for _, i := range []int{math.MinInt, -1, 0, 62, 63, 64, 65, 127, 128, math.MaxInt} {
			if data, e := b.s.Read(i); data != "" || e != api.ErrDead {
				t.Fatalf("Read(%d) without power: %.20q, %v; want nothing, ErrDead", i, data, e)
			}
		}
		b.s.Free() // some answer
		b.s.Used()
		if b.s.First() != 64 {
			t.Errorf("First without power: %d", b.s.First())
		}
		wantDevice(t, "calls without power", b.d, b.twin)
		b.crash([]bool{true, true, true, true, true}, -1, 0)
		b.like(t, "the power is back") // nothing was changed: what is open is open still
		if !b.p.open {
			b.refused(t, commit(), api.ErrState)
			b.row(t, begin())
		}
		b.refused(t, begin(), api.ErrState)
		b.row(t, alloc(1), commit())
	}
}

func TestAbortWithoutPower(t *testing.T) {
	b := newPair(t, 128, 64)
	b.row(t, begin(), alloc(3), write(65, full("a")), commit())
	b.row(t, begin(), release(64, 1), alloc(7), write(65, full("b")))
	kill(t, b.d)
	b.s.Abort()
	b.d.Crash([]bool{true, true, true}, -1, 0)
	b.p.undone()
	wantStore(t, "behind Abort without power", b.s, b.p)
	wantErrno(t, "Commit", b.s.Commit(), api.ErrState)
	wantErrno(t, "Begin", b.s.Begin(), api.OK)
}

func TestFirst(t *testing.T) {
	for n, want := range map[int]int{128: 64, 129: 64, 2047: 64, 2048: 64, 2049: 65, 2050: 65, 4095: 65, 4096: 65} {
		_, s := formatted(t, n)
		if s.First() != want || s.Free() != n-want || len(s.Used()) != 0 {
			t.Errorf("of %d blocks: First %d, Free %d, Used %v; want %d", n, s.First(), s.Free(), s.Used(), want)
		}
	}
}

func TestFreeAndUsed(t *testing.T) {
	for _, n := range []int{128, 133, 2048, 2049, 2100, 4096} {
		b := newPair(t, n, 64)
		first, all := firstOf(n), n-firstOf(n)
		b.row(t, begin(), alloc(all)) // all
		if l := b.s.Used(); b.s.Free() != 0 || !slices.Equal(l, []api.Extent{{Start: first, Count: all}}) {
			t.Fatalf("all of %d are used: %d, %v", n, b.s.Free(), l)
		}
		b.row(t, release(first, 1))
		b.row(t, release(n-1, 1))
		b.row(t, release(first+7, 3))
		b.row(t, release(first+11, 1))
		want := []api.Extent{{Start: first + 1, Count: 6}, {Start: first + 10, Count: 1}, {Start: first + 12, Count: all - 13}}
		if l := b.s.Used(); b.s.Free() != 6 || !slices.Equal(l, want) {
			t.Fatalf("some of %d are used: %d, %v; want %v", n, b.s.Free(), l, want)
		}
		b.row(t, commit())
		b.row(t, begin(), release(first+1, 6), release(first+10, 1), release(first+12, all-13))
		if l := b.s.Used(); b.s.Free() != all || len(l) != 0 {
			t.Fatalf("none of %d is used: %d, %v", n, b.s.Free(), l)
		}
		b.row(t, commit())
	}
}

// Extents go across the bitmap's blocks.
func TestUsedAcrossTheBitmapsBlocks(t *testing.T) {
	b := newPair(t, 2100, 64)
	b.row(t, begin(), alloc(2035))
	for _, x := range []struct {
		call
		want []api.Extent
	}{
		{release(65, 1980), []api.Extent{{Start: 2045, Count: 55}}},
		{release(2047, 1), []api.Extent{{Start: 2045, Count: 2}, {Start: 2048, Count: 52}}},
		{alloc(1981), []api.Extent{{Start: 2045, Count: 2}, {Start: 2048, Count: 52}}},
		{alloc(1980), []api.Extent{{Start: 65, Count: 1982}, {Start: 2048, Count: 52}}},
		{alloc(1), []api.Extent{{Start: 65, Count: 2035}}},
		{release(2048, 1), []api.Extent{{Start: 65, Count: 1983}, {Start: 2049, Count: 51}}},
		{release(65, 1983), []api.Extent{{Start: 2049, Count: 51}}},
	} {
		if _, _, fault := b.do(x.call); fault != "" {
			t.Fatal(fault)
		}
		if l := b.s.Used(); !slices.Equal(l, x.want) {
			t.Fatalf("behind %v: Used: %v; want %v", x.call, l, x.want)
		}
		b.like(t, fmt.Sprint(x.call))
	}
	b.row(t, commit())
}

func TestUsedIsNew(t *testing.T) {
	b := newPair(t, 128, 64)
	b.row(t, begin(), alloc(8), release(66, 1), release(69, 2), commit())
	want := []api.Extent{{Start: 64, Count: 2}, {Start: 67, Count: 2}, {Start: 71, Count: 1}}
	l := b.s.Used()
	if !slices.Equal(l, want) {
		t.Fatalf("Used: %v; want %v", l, want)
	}
	b.row(t, begin(), release(64, 1), alloc(20), commit())
	if !slices.Equal(l, want) {
		t.Errorf("a list that was told was changed: %v", l)
	}
	l = b.s.Used()
	for i := range l {
		l[i] = api.Extent{Start: -1, Count: 99}
	}
	l = append(l[:0], api.Extent{}, api.Extent{}, api.Extent{})
	b.like(t, "a list that was told is written into")
	b.row(t, begin(), alloc(2), commit())
}

func TestRead(t *testing.T) {
	for _, n := range []int{128, 2048, 2049, 4096} {
		d := filled(t, n)
		wantErrno(t, "Format", store.Format(d), api.OK)
		s := open(t, d, 64)
		first := firstOf(n)
		for _, i := range []int{first, first + 1, n - 2, n - 1} { // not used
			if data, e := s.Read(i); data != named(fmt.Sprint("lay on ", i)) || e != api.OK {
				t.Errorf("Read(%d): %.20q, %v", i, data, e)
			}
		}
		for _, i := range []int{math.MinInt, math.MinInt + first, -first, -1, 0, 1, 2, 61, 62, 63, first - 1, n, n + 1, 4096, 1<<32 + first, math.MaxInt} {
			if data, e := s.Read(i); data != "" || e != api.ErrRange {
				t.Errorf("Read(%d) of %d: %.20q, %v; want nothing, ErrRange", i, n, data, e)
			}
		}
		wantErrno(t, "Begin", s.Begin(), api.OK)
		s.Alloc(2)
		wantErrno(t, "Write", s.Write(first, full("a")), api.OK)
		for i, want := range map[int]string{first: full("a"), first + 1: named(fmt.Sprint("lay on ", first+1))} {
			if data, e := s.Read(i); data != want || e != api.OK {
				t.Errorf("Read(%d): %.20q, %v; want %.20q", i, data, e, want)
			}
		}
	}
}

// S4

func TestBeginTwice(t *testing.T) {
	b := newPair(t, 128, 64)
	b.row(t, begin())
	b.refused(t, begin(), api.ErrState)
	b.row(t, alloc(2), write(65, full("a")))
	b.refused(t, begin(), api.ErrState)
	b.row(t, commit()) // what was done is not lost by it
	b.row(t, begin(), commit())
	b.row(t, begin(), abort())
	b.row(t, begin(), alloc(1), abort())
	b.row(t, begin())
}

func TestWithoutTransaction(t *testing.T) {
	for _, row := range [][]call{{begin(), abort()}, {begin(), commit()}, {begin(), alloc(4), commit()}, {begin(), alloc(4), write(64, full("a")), abort()}, {abort()}} {
		b := newPair(t, 128, 64)
		b.row(t, row...)
		for _, x := range deadCalls(128) {
			if x.name != "Begin" {
				b.errs(t, x, api.ErrState) // ahead of all other errors
			}
		}
		b.row(t, abort())
		b.row(t, begin(), alloc(1), commit())
	}
}

// full48 is a transaction that touches 48 blocks: the bitmap's one, and 47 of 60 data blocks.
func full48(t *testing.T, n int) *pair {
	t.Helper()
	b := newPair(t, n, 64)
	b.row(t, begin(), alloc(60))
	for i := range 47 {
		b.errs(t, write(firstOf(n)+i, full("a")), api.OK)
	}
	b.like(t, "48 blocks are touched")
	return b
}

func TestTheOrderOfErrors(t *testing.T) {
	b := full48(t, 2100) // of the bitmap its first block is touched
	first := b.p.first
	for _, x := range []struct {
		call
		want api.Errno
	}{
		{write(64, ""), api.ErrRange}, {write(2100, "x"), api.ErrRange}, {write(64, full("x")), api.ErrRange},
		{write(first+60, ""), api.ErrNone}, {write(first+60, full("x")), api.ErrNone}, {write(2099, "x"), api.ErrNone},
		{write(first+47, ""), api.ErrSize}, {write(first+47, strings.Repeat("x", 255)), api.ErrSize}, {write(first, strings.Repeat("x", 257)), api.ErrSize},
		{write(first+47, full("x")), api.ErrMany},
		{alloc(0), api.ErrArg}, {alloc(-1), api.ErrArg}, {alloc(math.MinInt), api.ErrArg},
		{alloc(2036), api.ErrFull}, {alloc(1976), api.ErrFull}, {alloc(math.MaxInt), api.ErrFull},
		{alloc(1975), api.ErrMany}, {alloc(1950), api.ErrMany},
		{release(64, 1), api.ErrRange}, {release(first+60, 0), api.ErrRange}, {release(first, -1), api.ErrRange}, {release(2099, 2), api.ErrRange},
		{release(first+59, 2), api.ErrNone}, {release(2040, 20), api.ErrNone},
	} {
		b.refused(t, x.call, x.want)
	}
	b.row(t, alloc(1923)) // up to the end of the bitmap's first block: no more blocks are touched
	b.refused(t, alloc(1), api.ErrMany)
	b.row(t, release(first, 1983))
	b.row(t, commit())
	b.row(t, begin(), alloc(2035), commit())
	b.row(t, begin())
	for i := range 48 {
		b.errs(t, write(first+i, full("b")), api.OK)
	}
	b.refused(t, release(first, 1), api.ErrMany)
	b.refused(t, release(2099, 1), api.ErrMany)
	b.refused(t, release(2047, 2), api.ErrMany)
	b.refused(t, release(2048, 53), api.ErrRange)
	b.refused(t, alloc(1), api.ErrFull) // ahead of ErrMany
	b.row(t, commit())
}

func TestWrite(t *testing.T) {
	b := newPair(t, 128, 64)
	b.row(t, begin(), alloc(64))
	for _, i := range []int{64, 65, 100, 126, 127} {
		for _, size := range []int{0, 1, 255, 257, 512, 65536 + 256} {
			b.refused(t, write(i, strings.Repeat("x", size)), api.ErrSize)
		}
		b.row(t, write(i, named(fmt.Sprint("first ", i))))
		b.row(t, write(i, named(fmt.Sprint("then ", i))))
	}
	for _, i := range []int{math.MinInt, -64, -1, 0, 2, 61, 62, 63, 128, 129, 1<<32 + 64, math.MaxInt} {
		b.refused(t, write(i, full("x")), api.ErrRange)
	}
	b.row(t, release(100, 2))
	b.refused(t, write(100, full("x")), api.ErrNone)
	b.refused(t, write(101, full("x")), api.ErrNone)
	b.row(t, write(99, full("y")), write(102, full("z")))
	b.row(t, commit())
	b.row(t, begin(), write(64, full("q")), abort())
}

// No data hold the byte of a bit: the block of the bitmap is not written by Write, nor is one behind the n-th.
func TestWriteTouchesNoBitmap(t *testing.T) {
	b := newPair(t, 2049, 64)
	b.row(t, begin(), alloc(1984), commit())
	b.row(t, begin(), write(2048, full("a")), write(65, full("b")), commit())
	b.row(t, begin(), write(65, full("b")), commit()) // the same data: it is written all the same
}

// Each way to touch 47, 48, 49 blocks.
func TestTouched(t *testing.T) {
	for _, n := range []int{128, 300, 2049, 4096} {
		b := newPair(t, n, 64)
		first := b.p.first
		b.row(t, begin(), alloc(n-first), commit()) // touches all of the bitmap
		b.row(t, begin())
		for i := range 47 {
			b.errs(t, write(first+i, full("a")), api.OK)
		}
		b.row(t, write(first+46, full("b")), write(first, full("c"))) // twice the same: 47 still
		b.row(t, write(first+47, full("d")))                          // 48
		b.refused(t, write(first+48, full("e")), api.ErrMany)
		b.refused(t, write(n-1, full("e")), api.ErrMany)
		b.row(t, write(first+47, full("f")), write(first+20, full("g")))
		b.refused(t, release(first, 1), api.ErrMany)
		b.refused(t, release(n-1, 1), api.ErrMany)
		b.row(t, commit())
		for _, k := range []int{46, 47, 48} {
			b.row(t, begin())
			for i := range k {
				b.errs(t, write(first+i, named(fmt.Sprint(k, " ", i))), api.OK)
			}
			if k == 48 {
				b.refused(t, release(first+3, 1), api.ErrMany)
			} else {
				b.row(t, release(first+3, 1))
				b.row(t, alloc(1), release(first+3, 1), alloc(1)) // the same block of the bitmap
				_, e, fault := b.do(write(first+k, full("z")))
				if fault != "" || (e == api.OK) != (k == 46) {
					t.Fatalf("%d blocks and the bitmap: %v, %s", k, e, fault)
				}
			}
			b.row(t, commit())
		}
	}
}

func TestTouchedByTwoBlocksOfTheBitmap(t *testing.T) {
	for _, k := range []int{45, 46, 47, 48} {
		b := newPair(t, 2100, 64)
		b.row(t, begin(), alloc(2035), release(2040, 20), commit())
		b.row(t, begin())
		for i := range k {
			b.errs(t, write(65+i, named(fmt.Sprint(i))), api.OK)
		}
		both := api.OK
		if k > 46 {
			both = api.ErrMany
		}
		one := api.OK
		if k > 47 {
			one = api.ErrMany
		}
		other := b.copiedOpen(t, k)
		b.errs(t, alloc(20), both)
		b.like(t, "Alloc across both")
		b.errs(t, release(2000, 60), []api.Errno{api.OK, api.ErrNone}[min(1, int(both))])
		b.like(t, "Release across both")
		b.errs(t, alloc(3), one)
		b.like(t, "Alloc of the first")
		b.row(t, commit())

		other.errs(t, release(2039, 1), one) // the first block of the bitmap
		other.like(t, "Release of the first")
		next := api.OK // then the other one
		if k > 46 {
			next = api.ErrMany
		}
		other.errs(t, release(2060, 1), next)
		other.like(t, "Release of the other one")
		other.row(t, commit())
	}
}

// copiedOpen is a copy of a pair ahead of its transaction, with as many writes done anew.
func (b *pair) copiedOpen(t *testing.T, k int) *pair {
	t.Helper()
	c := &pair{d: copyOf(t, b.d), twin: copyOf(t, b.twin), p: b.p.was.copied()}
	c.p.was = c.p.copied()
	c.open(t, 64)
	c.row(t, begin())
	for i := range k {
		c.errs(t, write(65+i, named(fmt.Sprint(i))), api.OK)
	}
	return c
}

func TestAlloc(t *testing.T) {
	b := newPair(t, 128, 64)
	b.row(t, begin())
	for _, n := range []int{math.MinInt, math.MinInt + 1, -64, -1, 0} {
		b.refused(t, alloc(n), api.ErrArg)
	}
	for _, n := range []int{65, 66, 128, 4096, 1 << 32, 1<<32 + 1, math.MaxInt - 63, math.MaxInt} {
		b.refused(t, alloc(n), api.ErrFull)
	}
	b.row(t, alloc(1))
	b.row(t, alloc(2))
	b.refused(t, alloc(62), api.ErrFull)
	b.row(t, alloc(61)) // all that are free
	b.refused(t, alloc(1), api.ErrFull)
	b.row(t, release(70, 3), release(80, 5), release(90, 1), release(120, 8))
	b.refused(t, alloc(9), api.ErrFull) // 17 are free, 8 of them beside one another
	for _, x := range []struct{ n, at int }{{4, 80}, {1, 70}, {3, 120}, {2, 71}, {2, 123}, {1, 84}, {1, 90}, {3, 125}} {
		at, e := b.s.Alloc(x.n)
		want, _ := b.p.alloc(x.n)
		if at != x.at || want != x.at || e != api.OK {
			t.Fatalf("Alloc(%d): %d, %v; want %d", x.n, at, e, x.at)
		}
	}
	b.refused(t, alloc(1), api.ErrFull)
	b.row(t, commit())
}

func TestAllocAcrossTheBitmapsBlocks(t *testing.T) {
	b := newPair(t, 4096, 64)
	b.row(t, begin(), alloc(1980), alloc(10), alloc(4031-1990))
	b.refused(t, alloc(1), api.ErrFull)
	b.row(t, release(2047, 1))
	b.row(t, release(2048, 1))
	b.row(t, release(2046, 1))
	b.row(t, release(4095, 1), release(2050, 2))
	b.row(t, alloc(3), alloc(2), alloc(1))
	b.row(t, commit())
}

// What is allocated has the data that lay there.
func TestAllocLeavesTheData(t *testing.T) {
	d := filled(t, 128)
	wantErrno(t, "Format", store.Format(d), api.OK)
	s := open(t, d, 64)
	s.Begin()
	at, e := s.Alloc(3)
	if data, f := s.Read(65); at != 64 || e != api.OK || data != named("lay on 65") || f != api.OK {
		t.Fatalf("behind Alloc: %d, %v, %.20q, %v", at, e, data, f)
	}
	s.Write(65, full("a"))
	s.Release(64, 3)
	if data, _ := s.Read(65); data != full("a") {
		t.Errorf("behind Release: %.20q", data)
	}
	at, _ = s.Alloc(2)
	if data, _ := s.Read(65); at != 64 || data != full("a") {
		t.Errorf("behind Alloc again: %d, %.20q", at, data)
	}
	wantErrno(t, "Commit", s.Commit(), api.OK)
	s = open(t, d, 64)
	for i, want := range map[int]string{64: named("lay on 64"), 65: full("a"), 66: named("lay on 66")} {
		if data, _ := s.Read(i); data != want {
			t.Errorf("opened again: %d: %.20q; want %.20q", i, data, want)
		}
	}
}

// A block that was written, and then released, is written by Commit.
func TestReleaseOfAWrittenBlock(t *testing.T) {
	b := newPair(t, 128, 64)
	b.row(t, begin(), alloc(3), write(65, full("a")), release(65, 1), commit())
	b.row(t, begin(), write(64, full("b")), release(64, 1), alloc(1), commit())
	b.row(t, begin(), write(64, full("c")), release(64, 1), alloc(2), abort())
}

func TestRelease(t *testing.T) {
	for _, n := range []int{128, 2049, 4096} {
		b := newPair(t, n, 64)
		first := b.p.first
		b.row(t, begin(), alloc(n-first), release(first+10, 1), release(n-10, 1))
		for _, x := range []struct{ start, n int }{
			{first, 0}, {first, -1}, {first, math.MinInt}, {n - 1, 0}, {n, 0},
			{first - 1, 1}, {first - 1, 2}, {63, 1}, {62, 1}, {0, 1}, {-1, 1}, {-1, 2}, {-1, first + 2}, {math.MinInt, 1}, {math.MinInt, math.MaxInt},
			{n - 1, 2}, {n - 2, 3}, {n, 1}, {n + 1, 1}, {first, n - first + 1}, {first, n},
			{first, math.MaxInt}, {n - 1, math.MaxInt}, {math.MaxInt, 1}, {math.MaxInt, math.MaxInt}, {first + 1, math.MaxInt - first}, {1 << 32, 1}, {first, 1 << 32},
		} {
			b.refused(t, release(x.start, x.n), api.ErrRange)
		}
		for _, x := range []struct{ start, n int }{{first + 10, 1}, {first + 9, 2}, {first + 10, 2}, {first, 11}, {first, n - first}, {n - 10, 1}, {n - 11, 3}, {n - 10, 10}} {
			b.refused(t, release(x.start, x.n), api.ErrNone)
		}
		b.row(t, release(n-1, 1))
		b.row(t, release(first, 1))
		b.refused(t, release(first, 1), api.ErrNone)
		b.row(t, release(first+1, 9))
		b.row(t, release(first+11, n-10-first-11))
		b.row(t, release(n-9, 8))
		if b.s.Free() != n-first {
			t.Errorf("Free: %d", b.s.Free())
		}
		b.row(t, commit())
	}
}

// One block that is not used, on either side of where the bitmap's blocks touch.
func TestReleaseAcrossTheBitmapsBlocks(t *testing.T) {
	for _, i := range []int{2040, 2047, 2048, 2059} {
		b := newPair(t, 4096, 64)
		b.row(t, begin(), alloc(4031), release(i, 1), commit())
		b.row(t, begin())
		b.refused(t, release(2040, 20), api.ErrNone)
		b.refused(t, release(65, 4031), api.ErrNone)
		b.row(t, release(i-5, 5), release(i+1, 30))
		b.row(t, alloc(36))
		b.row(t, release(2040, 20), commit())
	}
}

// S5

func TestCommitOfNothing(t *testing.T) {
	b := newPair(t, 128, 64)
	b.row(t, begin(), alloc(3), write(64, full("a")), commit())
	b.fuse(0) // there is no turn
	b.row(t, begin(), commit())
	b.refused(t, commit(), api.ErrState)
	b.row(t, begin(), abort())
	b.row(t, begin())
	b.refused(t, write(70, full("a")), api.ErrNone)
	b.refused(t, alloc(62), api.ErrFull)
	b.row(t, commit())
	b.refused(t, commit(), api.ErrState)
}

// Bytes of the bitmap that were turned, and turned back, are touched.
func TestCommitOfBytesTurnedBack(t *testing.T) {
	for _, n := range []int{128, 2100} {
		b := newPair(t, n, 64)
		first := b.p.first
		b.row(t, begin(), alloc(n-first), release(first, n-first))
		before := len(b.d.Pending())
		b.row(t, commit())
		if l := b.d.Pending(); len(l) == 0 || l[len(l)-1].Block != first-1 {
			t.Errorf("%d, then %d are pending", before, len(l))
		}
		b.row(t, begin(), alloc(3), release(first, 3), alloc(3), commit())
		b.row(t, begin(), release(first, 1), alloc(1), commit())
	}
}

// The writes are those of the touched blocks, by rising numbers, in one frame.
func TestCommitWrites(t *testing.T) {
	d, _ := formatted(t, 2100)
	twin := copyOf(t, d)
	s := open(t, d, 64)
	j, e := journal.Open(twin)
	wantErrno(t, "Open, by the journal", e, api.OK)
	s.Begin()
	s.Alloc(2035)
	s.Release(80, 2000)
	for _, i := range []int{2099, 70, 66, 2090, 65, 70} {
		wantErrno(t, "Write", s.Write(i, named(fmt.Sprint("of ", i))), api.OK)
	}
	wantErrno(t, "Commit", s.Commit(), api.OK)
	used := fresh(2100)
	for i := 65; i < 2100; i++ {
		used[i] = i < 80 || i >= 2080
	}
	l := homeOf(used)[1:]
	for _, i := range []int{65, 66, 70, 2090, 2099} {
		l = append(l, api.Write{Block: i, Data: named(fmt.Sprint("of ", i))})
	}
	wantErrno(t, "Commit, by the journal", j.Commit(l...), api.OK)
	wantDevice(t, "Commit", d, twin)
	if pending := d.Pending(); !slices.Equal(pending, l) {
		t.Errorf("%d are pending; want the %d writes at home", len(pending), len(l))
	}
}

func TestCommitEndsTheTransaction(t *testing.T) {
	b := newPair(t, 128, 64)
	b.row(t, begin(), alloc(3), write(64, full("a")), commit())
	b.refused(t, commit(), api.ErrState)
	b.refused(t, write(64, full("b")), api.ErrState)
	b.row(t, abort()) // what was committed is not undone by it
	b.row(t, begin(), write(65, full("b")), abort())
	b.row(t, begin(), write(65, full("c")), commit())
	b.d.Crash(nil, -1, 0)
	wantStore(t, "opened again", open(t, b.d, 64), b.p)
}

// A transaction writes just what it touched itself.
func TestCommitWritesNothingOfOthers(t *testing.T) {
	b := newPair(t, 128, 64)
	b.row(t, begin(), alloc(5), write(64, full("a")), write(66, full("b")), commit())
	b.row(t, begin(), write(65, full("c")), release(68, 1), abort())
	b.row(t, begin(), write(67, full("d")), commit())
	if l := b.d.Pending(); !slices.Equal(l, []api.Write{{Block: 67, Data: full("d")}}) {
		t.Errorf("%d are pending", len(l))
	}
}

func TestAbort(t *testing.T) {
	b := newPair(t, 2100, 64)
	b.row(t, abort()) // none is open: nothing is done
	b.row(t, begin(), alloc(2000), write(65, full("a")), write(2060, full("b")), release(70, 3), commit())
	b.row(t, begin(), write(65, full("c")), write(2060, full("d")))
	b.row(t, release(2047, 2), release(65, 1), alloc(4), write(2066, full("e")))
	b.row(t, abort())
	b.refused(t, commit(), api.ErrState)
	b.refused(t, alloc(1), api.ErrState)
	b.row(t, abort())
	b.row(t, begin(), commit()) // nothing of it is left
	b.row(t, begin(), alloc(1), write(70, full("f")), commit())
	b.fuse(0)
	b.row(t, begin(), alloc(5), write(65, full("c")), abort()) // there is no turn
}

// As many blocks may be touched again behind Abort, and behind Commit.
func TestTouchedIsForgotten(t *testing.T) {
	b := full48(t, 300)
	b.row(t, abort())
	b.row(t, begin(), alloc(60))
	for i := range 47 {
		b.errs(t, write(64+59-i, full("b")), api.OK)
	}
	b.refused(t, write(64, full("b")), api.ErrMany)
	b.row(t, commit())
	b.row(t, begin())
	for i := range 48 {
		b.errs(t, write(64+i, full("c")), api.OK)
	}
	b.refused(t, write(64+48, full("b")), api.ErrMany)
	b.row(t, commit())
}

// Two stores on two devices have nothing in common.
func TestStoresAreApart(t *testing.T) {
	one, other := newPair(t, 128, 64), newPair(t, 2100, 64)
	one.row(t, begin(), alloc(5), write(64, full("a")))
	other.row(t, begin(), alloc(9))
	other.row(t, write(66, full("b")), abort())
	one.row(t, commit())
	other.row(t, begin(), alloc(3), commit())
	one.like(t, "the one")
}
