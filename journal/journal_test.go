package journal

import (
	"math"
	"math/rand"
	"slices"
	"strconv"
	"strings"
	"testing"

	"codex/api"
	"codex/block"
)

// Examples

func TestExamples(t *testing.T) {
	d, _ := block.New(60)
	wantErrno(t, "Format", Format(d, 50), api.OK)
	j := open(t, d)
	wantJournal(t, "a new one", j, 52, 1, 0)
	wantErrno(t, "Commit", j.Commit(wr(53, "a"), wr(59, "b")), api.OK)
	wantJournal(t, "behind a Commit", j, 52, 2, 3)
	if s, e := j.Read(53); s != full("a") || e != api.OK {
		t.Errorf("Read(53): %q, %v", s, e)
	}
	wantErrno(t, "Commit of 51", j.Commit(wr(51, "a")), api.ErrRange)
	wantErrno(t, "Format with 58", Format(d, 58), api.ErrRange)
	fresh, _ := block.New(60)
	if j, e := Open(fresh); j != nil || e != api.ErrNone {
		t.Errorf("Open of a new device: %v, %v", j, e)
	}
}

// J1

func TestFormatRange(t *testing.T) {
	for _, c := range []struct {
		n, log int
		e      api.Errno
	}{
		{60, 49, api.ErrRange}, {60, 50, api.OK}, {60, 51, api.OK}, {60, 56, api.OK}, {60, 57, api.OK}, {60, 58, api.ErrRange}, {60, 60, api.ErrRange},
		{53, 50, api.OK}, {53, 49, api.ErrRange}, {53, 51, api.ErrRange}, {52, 50, api.ErrRange}, {52, 49, api.ErrRange},
		{1, 50, api.ErrRange}, {2, 50, api.ErrRange}, {3, 0, api.ErrRange}, {1, -2, api.ErrRange}, {1, 0, api.ErrRange}, {50, 47, api.ErrRange},
		{4096, 50, api.OK}, {4096, 60, api.OK}, {4096, 4093, api.OK}, {4096, 4094, api.ErrRange}, {4096, 4096, api.ErrRange},
		{60, 0, api.ErrRange}, {60, -1, api.ErrRange}, {60, -50, api.ErrRange}, {60, 1<<32 + 50, api.ErrRange}, {60, math.MaxInt, api.ErrRange}, {60, math.MinInt, api.ErrRange},
	} {
		d, _ := block.New(c.n)
		what := "Format of " + strconv.Itoa(c.n) + ", " + strconv.Itoa(c.log)
		wantErrno(t, what, Format(d, c.log), c.e)
		want := emptyDisk(c.n)
		if c.e == api.OK {
			want[0] = slotOf(1, 1, uint32(c.log), 0)
			wantJournal(t, what, open(t, deviceOf(t, d.Disk())), 2+c.log, 1, 0)
		}
		wantDisk(t, what, d.Disk(), want)
		wantPending(t, what, d.Pending(), nil)
	}
}

// What lies at home stays, all else is as it was said, whatever lay there.
func TestFormatBytes(t *testing.T) {
	r := rand.New(rand.NewSource(1))
	for _, c := range [][2]int{{53, 50}, {60, 50}, {60, 57}, {400, 300}} {
		disk := make([]string, c[0])
		for i := range disk {
			disk[i] = chosenText(r, 256)
		}
		d := deviceOf(t, disk)
		wantErrno(t, "Format", Format(d, c[1]), api.OK)
		want := slices.Clone(disk)
		copy(want, emptyDisk(2+c[1], slotOf(1, 1, uint32(c[1]), 0)))
		wantDisk(t, "Format over bytes", d.Disk(), want)
		wantPending(t, "Format over bytes", d.Pending(), nil)
	}
	begin := "CDXS\x01\x00\x00\x00\x00\x00\x00\x00\x01\x00\x00\x00\x00\x00\x00\x00\x2c\x01\x00\x00\x00\x00\x00\x00"
	if s := formatted(t, 400, 300).Disk()[0]; s != begin+strings.Repeat("\x00", 100)+begin+strings.Repeat("\x00", 100) {
		t.Errorf("the slot that Format writes: %q", s)
	}
}

func TestFormatTurns(t *testing.T) {
	for _, c := range [][2]int{{53, 50}, {60, 57}, {80, 61}} {
		var turns []turn
		for i := range c[1] + 1 {
			turns = append(turns, put(1+i, nought))
		}
		turns = append(turns, put(0, slotOf(1, 1, uint32(c[1]), 0)), flushed())
		wantTurns(t, "Format", func() (*block.Device, func() api.Errno) {
			d := deviceOf(t, slices.Repeat([]string{full("x")}, c[0]))
			d.Write(c[0]-1, full("y"))
			return d, func() api.Errno { return Format(d, c[1]) }
		}, turns)
	}
}

func TestFormatTellsTheRangeFirst(t *testing.T) {
	d, _ := block.New(60)
	d.Fuse(0)
	wantErrno(t, "Format with 49", Format(d, 49), api.ErrRange)
	wantErrno(t, "Format with 58", Format(d, 58), api.ErrRange)
	if d.Dead() {
		t.Error("Format with a wrong log had a turn")
	}
	wantErrno(t, "Format", Format(d, 50), api.ErrDead)
	wantErrno(t, "Format without power", Format(d, 50), api.ErrDead)
	wantErrno(t, "Format with 58, without power", Format(d, 58), api.ErrRange)
	wantDisk(t, "Format without power", d.Disk(), emptyDisk(60))
}

// A device that was used is formatted anew, with another log.
func TestFormatAgain(t *testing.T) {
	d := formatted(t, 80, 50)
	j := open(t, d)
	for range 30 {
		commit(t, j, wr(60, "a"), wr(79, "b"))
	}
	wantErrno(t, "Format again", Format(d, 60), api.OK)
	want := emptyDisk(80, slotOf(1, 1, 60, 0))
	want[79] = full("b")
	wantDisk(t, "Format again", d.Disk(), want)
	wantJournal(t, "Format again", open(t, d), 62, 1, 0)
}

// J2: slots

func TestOpenWithoutSlot(t *testing.T) {
	for _, n := range []int{1, 2, 3, 52, 53, 60, 4096} {
		wantOpen(t, "noughts", emptyDisk(n))
		wantOpen(t, "other bytes", slices.Repeat([]string{full("C")}, n))
		wantOpen(t, "a slot of a greater device", emptyDisk(n, slotOf(1, 1, uint32(max(50, n-2)), 0)))
	}
	// nothing is a slot but where one stands
	disk := emptyDisk(60)
	disk[2], disk[59] = slotOf(1, 1, 50, 0), slotOf(1, 1, 50, 0)
	wantOpen(t, "a slot elsewhere", disk)
}

func TestOpenOfSlots(t *testing.T) {
	for _, c := range []struct {
		what         string
		one, other   string
		at           int // where the new slot stands
		e, s         uint64
		log, p, home int
	}{
		{"the first alone", slotOf(7, 9, 50, 3), nought, 1, 8, 9, 50, 3, 52},
		{"the second alone", nought, slotOf(7, 9, 50, 3), 0, 8, 9, 50, 3, 52},
		{"the first is greater", slotOf(7, 9, 50, 3), slotOf(6, 11, 51, 4), 1, 8, 9, 50, 3, 52},
		{"the second is greater", slotOf(6, 9, 50, 3), slotOf(7, 11, 51, 4), 0, 8, 11, 51, 4, 53},
		{"one number", slotOf(7, 9, 50, 3), slotOf(7, 11, 51, 4), 1, 8, 9, 50, 3, 52},
		{"the number 0 alone, the first", slotOf(0, 9, 50, 3), nought, 1, 1, 9, 50, 3, 52},
		{"the number 0 alone, the second", nought, slotOf(0, 9, 50, 3), 0, 1, 9, 50, 3, 52},
		{"the number 0 twice", slotOf(0, 9, 50, 3), slotOf(0, 11, 51, 4), 1, 1, 9, 50, 3, 52},
		{"far greater, the first", slotOf(1<<32, 9, 50, 3), slotOf(1<<32-1, 11, 51, 4), 1, 1<<32 + 1, 9, 50, 3, 52},
		{"far greater, the second", slotOf(1<<32-1, 9, 50, 3), slotOf(1<<32, 11, 51, 4), 0, 1<<32 + 1, 11, 51, 4, 53},
		{"above 2^63, the first", slotOf(1<<63, 9, 50, 3), slotOf(1<<63-1, 11, 51, 4), 1, 1<<63 + 1, 9, 50, 3, 52},
		{"above 2^63, the second", slotOf(1<<63-1, 9, 50, 3), slotOf(1<<63, 11, 51, 4), 0, 1<<63 + 1, 11, 51, 4, 53},
		{"2^32 - 1", slotOf(1<<32-1, 1<<32-1, 50, 49), nought, 1, 1 << 32, 1<<32 - 1, 50, 49, 52},
		{"2^64 - 1", slotOf(1<<64-1, 1<<64-1, 50, 49), nought, 1, 0, 1<<64 - 1, 50, 49, 52},
		{"2^64 - 1, and 0", slotOf(0, 9, 50, 3), slotOf(1<<64-1, 0, 51, 4), 0, 0, 0, 51, 4, 53},
		{"the least log", slotOf(7, 9, 50, 49), slotOf(8, 9, 49, 0), 1, 8, 9, 50, 49, 52},
		{"the greatest log", slotOf(8, 9, 58, 0), slotOf(7, 9, 57, 56), 0, 8, 9, 57, 56, 59},
		{"the place of the first is too far", slotOf(8, 9, 50, 50), slotOf(7, 9, 50, 1), 0, 8, 9, 50, 1, 52},
		{"the place of the second is too far", slotOf(7, 9, 57, 1), slotOf(8, 9, 57, 57), 1, 8, 9, 57, 1, 59},
	} {
		disk := emptyDisk(60, c.one, c.other)
		j := wantOpen(t, c.what, disk)
		wantJournal(t, c.what, j, c.home, c.s, 0)
		disk[c.at] = slotOf(c.e, c.s, uint32(c.log), uint32(c.p))
		wantDisk(t, c.what, j.Disk(), disk)
	}
}

func TestOpenOfWrongSlots(t *testing.T) {
	good := slotOf(5, 6, 50, 7)
	both := func(at int, bytes string) string { return laid(laid(good, at, bytes), 128+at, bytes) }
	for what, s := range map[string]string{
		"a place of 50":             slotOf(9, 1, 50, 50),
		"a place of 57, a log 57":   slotOf(9, 1, 57, 57),
		"a place above 2^31":        slotOf(9, 1, 50, 1<<31),
		"the greatest place":        slotOf(9, 1, 50, 1<<32-1),
		"a log of 49":               slotOf(9, 1, 49, 0),
		"a log of 0":                slotOf(9, 1, 0, 0),
		"a log of 1":                slotOf(9, 1, 1, 0),
		"a log of 58":               slotOf(9, 1, 58, 0),
		"a log of 59":               slotOf(9, 1, 59, 0),
		"a log of 60":               slotOf(9, 1, 60, 0),
		"a log of 4093":             slotOf(9, 1, 4093, 0),
		"a log above 2^31":          slotOf(9, 1, 1<<31+50, 0),
		"the greatest log":          slotOf(9, 1, 1<<32-1, 0),
		"the halves unlike":         slotOf(9, 1, 50, 0)[:128] + good[128:],
		"the first half alone":      good[:128] + nought[:128],
		"the second half alone":     nought[:128] + good[128:],
		"another beginning":         both(0, "CDXT"),
		"a small beginning":         both(0, "cdxs"),
		"no nought behind":          both(28, "\x01"),
		"no nought at the end":      both(127, "\x01"),
		"a frame's head":            frameOf(9, wr(52, "a"))[0],
		"the beginning, and more":   "CDXS" + strings.Repeat("\xff", 252),
		"the beginning, and nought": "CDXS" + strings.Repeat("\x00", 252),
	} {
		wantOpen(t, what+", alone in the first", emptyDisk(60, s))
		wantOpen(t, what+", alone in the second", emptyDisk(60, nought, s))
		for i, slots := range [][]string{{s, good}, {good, s}} {
			j := wantOpen(t, what, emptyDisk(60, slots...))
			wantJournal(t, what, j, 52, 6, 0)
			if j.Disk()[i] != slotOf(6, 6, 50, 7) {
				t.Errorf("%s: the wrong slot is not the one that is written: %q", what, j.Disk()[i])
			}
		}
	}
}

// A bit that is turned makes a slot none, wherever it stands.
func TestOpenOfTurnedBits(t *testing.T) {
	good := slotOf(5, 6, 50, 7)
	for k := range 2048 {
		s := laid(good, k/8, string([]byte{good[k/8] ^ 1<<(k%8)}))
		d := deviceOf(t, emptyDisk(53, s))
		if j, e := Open(d); j != nil || e != api.ErrNone {
			t.Fatalf("bit %d turned: Open: %v, %v", k, j, e)
		}
	}
	// turned in both halves it is another slot, or none
	for k := range 1024 {
		bit := string([]byte{good[k/8] ^ 1<<(k%8)})
		_, _, _, _, right := slotIn(laid(laid(good, k/8, bit), 128+k/8, bit), 53)
		_, e := Open(deviceOf(t, emptyDisk(53, laid(laid(good, k/8, bit), 128+k/8, bit))))
		if (e == api.OK) != right {
			t.Fatalf("bit %d turned in both halves: Open: %v", k, e)
		}
	}
}

// A slot that is torn over another one is what it was, or none, or whole.
func TestOpenOfTornSlots(t *testing.T) {
	for _, was := range []string{nought, slotOf(3, 3, 50, 40), slotOf(5, 6, 50, 7)} {
		next, other := slotOf(5, 6, 50, 8), slotOf(4, 5, 50, 9)
		for cut := range 257 {
			torn := next[:cut] + was[cut:]
			d := deviceOf(t, emptyDisk(60, torn, other))
			j := open(t, d)
			want := uint64(5)
			if torn == next || torn == slotOf(5, 6, 50, 7) {
				want = 6
			}
			wantJournal(t, "torn at "+strconv.Itoa(cut), j, 52, want, 0)
		}
	}
}

func TestOpenWithoutPower(t *testing.T) {
	for _, disk := range [][]string{emptyDisk(1), emptyDisk(2), emptyDisk(60), emptyDisk(60, slotOf(1, 1, 50, 0))} {
		d := deviceOf(t, disk)
		d.Fuse(0)
		d.Flush()
		if j, e := Open(d); j != nil || e != api.ErrDead {
			t.Errorf("Open of %d blocks without power: %v, %v", len(disk), j, e)
		}
		wantDisk(t, "Open without power", d.Disk(), disk)
	}
}

// J2: the log's frames

// A row of frames of these numbers of writes, from a number on, each with bytes of its own.
func someFrames(r *rand.Rand, seq uint64, first, n int, sizes ...int) ([][]string, []api.Write) {
	var frames [][]string
	var all []api.Write
	for i, size := range sizes {
		var l []api.Write
		for range size {
			l = append(l, api.Write{Block: first + r.Intn(n-first), Data: chosenText(r, 256)})
		}
		frames, all = append(frames, frameOf(seq+uint64(i), l...)), append(all, l...)
	}
	return frames, all
}

func TestOpenOfFrames(t *testing.T) {
	r := rand.New(rand.NewSource(2))
	for _, sizes := range [][]int{{}, {1}, {2}, {47}, {48}, {1, 1}, {1, 2, 3}, {3, 2, 1, 7, 1}, {10, 10, 10, 10}, {23, 23}, {24, 23}} {
		for _, p := range []int{0, 1, 2, 3, 25, 46, 47, 48, 49} {
			frames, all := someFrames(r, 9, 52, 60, sizes...)
			disk := layFrames(emptyDisk(60, slotOf(4, 9, 50, uint32(p))), 50, p, frames...)
			j := wantOpen(t, "frames", disk)
			blocks := len(all) + len(sizes)
			wantJournal(t, "frames", j, 52, 9+uint64(len(sizes)), 0)
			want := append(slices.Clone(disk[:52]), written(emptyDisk(8), 52, all...)...)
			behind := (p + blocks) % 50
			want[1], want[2+behind] = slotOf(5, 9+uint64(len(sizes)), 50, uint32(behind)), nought
			wantDisk(t, "frames", j.Disk(), want)
		}
	}
}

// Frames may fill the log: the place behind them is where they begin.
func TestOpenOfAFullLog(t *testing.T) {
	r := rand.New(rand.NewSource(3))
	for _, sizes := range [][]int{{48, 0}, {24, 24}, {1, 46}, {9, 9, 9, 9, 9}} {
		for _, p := range []int{0, 1, 30, 49} {
			sizes := slices.DeleteFunc(slices.Clone(sizes), func(n int) bool { return n == 0 })
			frames, _ := someFrames(r, 1, 52, 60, sizes...)
			wantOpen(t, "a full log", layFrames(emptyDisk(60, slotOf(1, 1, 50, uint32(p))), 50, p, frames...))
		}
	}
	frames, _ := someFrames(r, 1, 52, 60, 24, 24)
	j := wantOpen(t, "a full log", layFrames(emptyDisk(60, slotOf(1, 1, 50, 5)), 50, 5, frames...))
	wantJournal(t, "a full log", j, 52, 3, 0)
	if l := j.Disk(); l[1] != slotOf(2, 3, 50, 5) || l[2+5] != nought {
		t.Error("the place behind a full log's frames is not where they begin")
	}
}

// A frame may not have more blocks than are left: it would end in the one that stands first.
func TestOpenOfAFrameWithoutRoom(t *testing.T) {
	r := rand.New(rand.NewSource(4))
	for _, c := range []struct {
		sizes []int
		more  int // writes of the frame for which there is no room
	}{{[]int{40}, 9}, {[]int{40}, 48}, {[]int{24, 23}, 1}, {[]int{10, 10, 10}, 17}, {[]int{24, 24}, 1}} {
		for _, p := range []int{0, 7, 49} {
			frames, all := someFrames(r, 5, 52, 60, c.sizes...)
			disk := layFrames(emptyDisk(60, slotOf(1, 5, 50, uint32(p))), 50, p, frames...)
			blocks := len(all) + len(frames)
			// its data are, as far as they go round, what stands there, so that its sum is right
			var l []api.Write
			for i := range c.more {
				l = append(l, api.Write{Block: 55, Data: disk[2+(p+blocks+1+i)%50]})
			}
			if blocks < 50 {
				disk[2+(p+blocks)%50] = frameOf(5+uint64(len(frames)), l...)[0]
			}
			j := wantOpen(t, "no room", disk)
			wantJournal(t, "no room", j, 52, 5+uint64(len(frames)), 0)
		}
	}
}

func TestOpenOfOtherNumbers(t *testing.T) {
	one := []api.Write{wr(52, "a"), wr(53, "b")}
	two := []api.Write{wr(53, "c")}
	for _, c := range []struct {
		first, second uint64
		seq           uint64
		home          string
	}{
		{9, 10, 11, "ac"}, {9, 9, 10, "ab"}, {9, 11, 10, "ab"}, {9, 8, 10, "ab"}, {9, 0, 10, "ab"}, {9, 10 + 1<<32, 10, "ab"},
		{8, 9, 9, "\x00\x00"}, {10, 11, 9, "\x00\x00"}, {10, 9, 9, "\x00\x00"}, {0, 9, 9, "\x00\x00"}, {9 + 1<<32, 10, 9, "\x00\x00"},
	} {
		disk := layFrames(emptyDisk(60, slotOf(4, 9, 50, 48)), 50, 48, frameOf(c.first, one...), frameOf(c.second, two...))
		j := wantOpen(t, "other numbers", disk)
		wantJournal(t, "other numbers", j, 52, c.seq, 0)
		if l := j.Disk(); l[52] != full(c.home[:1]) || l[53] != full(c.home[1:]) {
			t.Errorf("frames %d, %d: home is %q, %q", c.first, c.second, l[52][:1], l[53][:1])
		}
	}
}

func TestOpenOfOtherSums(t *testing.T) {
	frames := [][]string{frameOf(9, wr(52, "a"), wr(53, "b")), frameOf(10, wr(53, "c")), frameOf(11, wr(54, "d"), wr(52, "e"), wr(55, "f"))}
	disk := layFrames(emptyDisk(60, slotOf(4, 9, 50, 45)), 50, 45, frames...)
	row := []int{0, 0, 0, 1, 1, 2, 2, 2, 2} // whose block it is
	for i, owner := range row {
		for _, at := range []int{0, 4, 12, 16, 100, 247, 248, 251, 252, 255} {
			broken := slices.Clone(disk)
			b := 2 + (45+i)%50
			broken[b] = laid(broken[b], at, string([]byte{broken[b][at] ^ 1}))
			j := wantOpen(t, "another sum", broken)
			wantJournal(t, "another sum", j, 52, 9+uint64(owner), 0)
			behind := []int{45, 48, 0}[owner]
			if l := j.Disk(); l[1] != slotOf(5, 9+uint64(owner), 50, uint32(behind)) || l[2+behind] != nought {
				t.Errorf("block %d, byte %d turned: the slot is %q", i, at, l[1][:28])
			}
		}
	}
}

func TestOpenOfWritesThatAreNotHome(t *testing.T) {
	good := wr(53, "g")
	for _, b := range []int{0, 1, 2, 30, 50, 51, 60, 61, 4095} {
		bad := wr(b, "x")
		for _, l := range [][]api.Write{{bad}, {bad, good}, {good, bad}, {good, bad, good}} {
			disk := layFrames(emptyDisk(60, slotOf(4, 9, 50, 10)), 50, 10, frameOf(9, l...), frameOf(10, wr(54, "h")))
			j := wantOpen(t, "not home, the first frame", disk)
			wantJournal(t, "not home, the first frame", j, 52, 9, 0)
			want := slices.Clone(disk)
			want[1], want[12] = slotOf(5, 9, 50, 10), nought
			wantDisk(t, "not home, the first frame", j.Disk(), want)

			disk = layFrames(emptyDisk(60, slotOf(4, 9, 50, 10)), 50, 10, frameOf(9, wr(52, "a")), frameOf(10, l...), frameOf(11, wr(54, "h")))
			j = wantOpen(t, "not home, the second frame", disk)
			wantJournal(t, "not home, the second frame", j, 52, 10, 0)
			want = slices.Clone(disk)
			want[1], want[14], want[52] = slotOf(5, 10, 50, 12), nought, full("a")
			wantDisk(t, "not home, the second frame", j.Disk(), want)
		}
	}
	for _, b := range []int{52, 59} {
		j := wantOpen(t, "home's ends", layFrames(emptyDisk(60, slotOf(4, 9, 50, 10)), 50, 10, frameOf(9, wr(b, "x"))))
		if wantJournal(t, "home's ends", j, 52, 10, 0); j.Disk()[b] != full("x") {
			t.Errorf("a write of %d is not done", b)
		}
	}
}

// What lies in the log ahead of the frames' place, or is of an older turn round, is none.
func TestOpenOfStaleFrames(t *testing.T) {
	disk := layFrames(emptyDisk(60, slotOf(4, 9, 50, 20)), 50, 16, frameOf(7, wr(52, "x")), frameOf(8, wr(53, "x")), frameOf(9, wr(54, "a")), frameOf(5, wr(55, "x")))
	j := wantOpen(t, "stale", disk)
	wantJournal(t, "stale", j, 52, 10, 0)
	if l := j.Disk(); l[52] != nought || l[53] != nought || l[54] != full("a") || l[55] != nought || l[2+22] != nought {
		t.Error("a stale frame was done, or still stands where the next one will be")
	}
	// the head of a frame whose data are not there
	disk = emptyDisk(60, slotOf(1, 1, 50, 0))
	disk[2] = frameOf(1, wr(52, "a"))[0]
	wantJournal(t, "a head alone", wantOpen(t, "a head alone", disk), 52, 1, 0)
}

// Pending writes are seen as what is there.
func TestOpenSeesWhatIsPending(t *testing.T) {
	d := deviceOf(t, emptyDisk(60))
	d.Write(0, slotOf(1, 1, 50, 0))
	for i, b := range frameOf(1, wr(52, "a")) {
		d.Write(2+i, b)
	}
	j := open(t, d)
	wantJournal(t, "pending", j, 52, 2, 0)
	if s, _ := j.Read(52); s != full("a") || len(d.Pending()) != 0 {
		t.Errorf("Read(52): %q, %d pending", s[:1], len(d.Pending()))
	}
}

func TestOpenOfGreatLogs(t *testing.T) {
	r := rand.New(rand.NewSource(5))
	sizes := make([]int, 150)
	for i := range sizes {
		sizes[i] = 1 + r.Intn(48)
	}
	for _, n := range []int{4096, 4080} {
		log := n - 3
		total := 0
		k := 0
		for ; k < len(sizes) && total+sizes[k]+1 <= log; k++ {
			total += sizes[k] + 1
		}
		frames, all := someFrames(r, 1<<32-3, n-1, n, sizes[:k]...)
		d := deviceOf(t, layFrames(emptyDisk(n, nought, slotOf(2, 1<<32-3, uint32(log), uint32(log-1))), log, log-1, frames...))
		j := open(t, d)
		wantJournal(t, "a great log", j, n-1, 1<<32-3+uint64(k), 0)
		if s, _ := j.Read(n - 1); s != all[len(all)-1].Data {
			t.Error("home is not what the last write made of it")
		}
		if l := d.Disk(); l[0] != slotOf(3, 1<<32-3+uint64(k), uint32(log), uint32((log-1+total)%log)) {
			t.Errorf("the slot is %q", l[0][:28])
		}
	}
}

func TestOpenOfChosenDisks(t *testing.T) {
	r := rand.New(rand.NewSource(6))
	right := 0
	for range 400 {
		n := 53 + r.Intn(12)
		log := 50 + r.Intn(n-52)
		p := r.Intn(log)
		seq := r.Uint64() >> r.Intn(64)
		e := r.Uint64() >> r.Intn(64)
		slots := []string{slotOf(e, seq, uint32(log), uint32(p)), slotOf(e+uint64(r.Intn(3))-1, seq+1, uint32(50+r.Intn(n-50)), uint32(r.Intn(60)))}
		r.Shuffle(2, func(a, b int) { slots[a], slots[b] = slots[b], slots[a] })
		var sizes []int
		for range r.Intn(5) {
			sizes = append(sizes, 1+r.Intn(12))
		}
		frames, _ := someFrames(r, seq, 2+log-r.Intn(2)*r.Intn(2), n, sizes...)
		disk := layFrames(emptyDisk(n, slots...), log, p, frames...)
		for range r.Intn(3) {
			disk[r.Intn(n)] = chosenText(r, 256)
		}
		if wantOpen(t, "chosen", disk) != nil {
			right++
		}
	}
	if right < 200 {
		t.Errorf("only %d of the chosen disks have a slot that counts", right)
	}
}

// J3

func TestCommitErrors(t *testing.T) {
	good, low, high, short, long, both := wr(52, "a"), wr(51, "a"), wr(60, "a"), api.Write{Block: 52, Data: full("a")[:255]}, api.Write{Block: 59, Data: full("a") + "a"}, api.Write{Block: 51}
	cases := []struct {
		l []api.Write
		e api.Errno
	}{
		{nil, api.ErrMany}, {[]api.Write{}, api.ErrMany}, {make([]api.Write, 49), api.ErrMany}, {slices.Repeat([]api.Write{good}, 49), api.ErrMany}, {slices.Repeat([]api.Write{low}, 1000), api.ErrMany},
		{[]api.Write{low}, api.ErrRange}, {[]api.Write{high}, api.ErrRange}, {[]api.Write{short}, api.ErrSize}, {[]api.Write{long}, api.ErrSize}, {[]api.Write{{Block: 55}}, api.ErrSize},
		{[]api.Write{both}, api.ErrRange}, {[]api.Write{low, short}, api.ErrRange}, {[]api.Write{short, low}, api.ErrSize}, {[]api.Write{good, short, high}, api.ErrSize}, {[]api.Write{good, high, short}, api.ErrRange}, {[]api.Write{both, short}, api.ErrRange}, {[]api.Write{long, both}, api.ErrSize},
		{append(slices.Repeat([]api.Write{good}, 47), low), api.ErrRange}, {append(slices.Repeat([]api.Write{good}, 47), short), api.ErrSize},
	}
	for _, b := range []int{-1, 0, 1, 2, 51, 60, 61, 4095, 4096, 1<<32 + 52, -52, math.MaxInt, math.MinInt} {
		cases = append(cases, struct {
			l []api.Write
			e api.Errno
		}{[]api.Write{good, wr(b, "a")}, api.ErrRange})
	}
	d := formatted(t, 60, 50)
	j := open(t, d)
	commit(t, j, good)
	disk, pending := d.Disk(), d.Pending()
	for i, c := range cases {
		wantErrno(t, "case "+strconv.Itoa(i), j.Commit(c.l...), c.e)
	}
	d.Fuse(0)
	for i, c := range cases {
		wantErrno(t, "with a fuse, case "+strconv.Itoa(i), j.Commit(c.l...), c.e)
	}
	if d.Dead() {
		t.Error("a Commit of wrong writes had a turn")
	}
	wantErrno(t, "good, with a fuse", j.Commit(good), api.ErrDead)
	for i, c := range cases {
		wantErrno(t, "without power, case "+strconv.Itoa(i), j.Commit(c.l...), c.e)
	}
	wantErrno(t, "good, without power", j.Commit(good), api.ErrDead)
	wantErrno(t, "Checkpoint without power", j.Checkpoint(), api.ErrDead)
	wantJournal(t, "behind errors", j, 52, 2, 2)
	wantDisk(t, "behind errors", d.Disk(), disk)
	wantPending(t, "behind errors", d.Pending(), pending)
}

func TestCommitOfBlocks(t *testing.T) {
	for _, c := range [][2]int{{53, 50}, {60, 50}, {60, 57}, {4096, 50}, {4096, 4093}} {
		j := open(t, formatted(t, c[0], c[1]))
		home := 2 + c[1]
		commit(t, j, wr(home, "a"))
		commit(t, j, wr(c[0]-1, "b"))
		wantErrno(t, "ahead of home", j.Commit(wr(home-1, "c")), api.ErrRange)
		wantErrno(t, "behind home", j.Commit(wr(c[0], "c")), api.ErrRange)
		wantJournal(t, "ends of home", j, home, 3, 4)
		want := written(emptyDisk(c[0]-home), home, wr(home, "a"), wr(c[0]-1, "b"))
		if !slices.Equal(homeOf(t, j), want) {
			t.Error("home is not what was written")
		}
	}
}

// Each number of writes, each turn, on a log that is empty, and on one that goes round.
func TestCommitTurns(t *testing.T) {
	r := rand.New(rand.NewSource(7))
	for _, n := range []int{1, 2, 3, 8, 47, 48} {
		for _, p := range []uint32{0, 30, 48, 49} {
			var l []api.Write
			for range n {
				l = append(l, api.Write{Block: 52 + r.Intn(8), Data: chosenText(r, 256)})
			}
			disk := emptyDisk(60, slotOf(4, 9, 50, p))
			_, s, _ := opened(disk)
			var last *Journal
			wantTurns(t, "Commit", func() (*block.Device, func() api.Errno) {
				last = open(t, deviceOf(t, disk))
				return last.Device, func() api.Errno { return last.Commit(l...) }
			}, s.commit(l...))
			wantJournal(t, "Commit", last, 52, 10, n+1)
		}
	}
}

// A block that is written twice is what the last write made of it, at once and behind a crash.
func TestCommitOfOneBlockTwice(t *testing.T) {
	d := formatted(t, 60, 50)
	j := open(t, d)
	commit(t, j, wr(52, "a"), wr(53, "b"), wr(52, "c"), wr(53, "d"), wr(52, "e"))
	want := written(emptyDisk(8), 52, wr(52, "e"), wr(53, "d"))
	if !slices.Equal(homeOf(t, j), want) {
		t.Error("home is not what the last writes made of it")
	}
	d.Crash(nil, -1, 0)
	if !slices.Equal(homeOf(t, open(t, d)), want) {
		t.Error("home is not what the last writes made of it, behind a crash")
	}
}

// The frame and one block more must have room; if one block is lacking, a checkpoint comes first.
func TestCommitRoom(t *testing.T) {
	for _, c := range []struct {
		log, first, n int
		checkpoint    bool
	}{
		{50, 47, 1, true}, {50, 46, 1, false}, {50, 45, 2, false}, {50, 45, 3, true}, {50, 46, 2, true}, {50, 1, 46, false}, {50, 1, 47, true}, {50, 1, 48, true},
		{50, 24, 23, false}, {50, 24, 24, true}, {51, 1, 47, false}, {51, 1, 48, true}, {52, 1, 48, false}, {50, 48, 1, true}, {50, 48, 48, true},
	} {
		for _, p := range []uint32{0, 20, 49} {
			disk := emptyDisk(60, slotOf(4, 9, uint32(c.log), p))
			_, s, _ := opened(disk)
			l, more := slices.Repeat([]api.Write{wr(55, "a")}, c.first), slices.Repeat([]api.Write{wr(56, "b")}, c.n)
			s.commit(l...)
			var last *Journal
			wantTurns(t, "room", func() (*block.Device, func() api.Errno) {
				last = open(t, deviceOf(t, disk))
				commit(t, last, l...)
				return last.Device, func() api.Errno { return last.Commit(more...) }
			}, s.commit(more...))
			used := c.first + 1 + c.n + 1
			if c.checkpoint {
				used = c.n + 1
			}
			wantJournal(t, "room", last, 2+c.log, 11, used)
		}
	}
}

// Where the power goes says what Seq and Used are: a frame is there when its head is flushed.
func TestJournalBehindAnError(t *testing.T) {
	for k := range 12 {
		j := open(t, formatted(t, 60, 50))
		commit(t, j, wr(52, "a"))
		j.Fuse(k)
		e := j.Commit(wr(53, "b"), wr(54, "c"), wr(55, "d"))
		// 3 data, noughts, a flush, the head, a flush; then 3 writes at home
		switch {
		case k < 7:
			wantErrno(t, "ahead of the head", e, api.ErrDead)
			wantJournal(t, "ahead of the head", j, 52, 2, 2)
		case k < 10:
			wantErrno(t, "behind the head", e, api.ErrDead)
			wantJournal(t, "behind the head", j, 52, 3, 6)
		default:
			wantErrno(t, "whole", e, api.OK)
			wantJournal(t, "whole", j, 52, 3, 6)
		}
	}
	for k := range 8 {
		j := open(t, formatted(t, 60, 50))
		commit(t, j, slices.Repeat([]api.Write{wr(52, "a")}, 47)...)
		j.Fuse(k)
		e := j.Commit(wr(53, "b"))
		wantErrno(t, "with a checkpoint", e, api.ErrDead)
		switch {
		case k < 4:
			wantJournal(t, "within the checkpoint", j, 52, 2, 48)
		default:
			wantJournal(t, "behind the checkpoint", j, 52, 2, 0)
		}
	}
}

// J4

func TestCheckpointTurns(t *testing.T) {
	for commits := range 4 {
		for _, p := range []uint32{0, 3, 45, 49} {
			disk := emptyDisk(60, slotOf(4, 9, 50, p))
			_, s, _ := opened(disk)
			for range commits {
				s.commit(wr(52, "a"))
			}
			scene := func(before int) func() (*block.Device, func() api.Errno) {
				return func() (*block.Device, func() api.Errno) {
					j := open(t, deviceOf(t, disk))
					for range commits {
						commit(t, j, wr(52, "a"))
					}
					for range before {
						wantErrno(t, "Checkpoint", j.Checkpoint(), api.OK)
					}
					return j.Device, j.Checkpoint
				}
			}
			for before := range 4 {
				wantTurns(t, "Checkpoint", scene(before), s.checkpoint())
			}
		}
	}
}

func TestCheckpoint(t *testing.T) {
	d := formatted(t, 60, 50)
	j := open(t, d)
	if l := d.Disk(); l[0] != slotOf(1, 1, 50, 0) || l[1] != slotOf(2, 1, 50, 0) {
		t.Errorf("the slots behind Open: %q, %q", l[0][:28], l[1][:28])
	}
	commit(t, j, wr(52, "a"), wr(53, "b"))
	wantErrno(t, "Checkpoint", j.Checkpoint(), api.OK)
	wantJournal(t, "Checkpoint", j, 52, 2, 0)
	if l := d.Disk(); l[0] != slotOf(3, 2, 50, 3) || l[1] != slotOf(2, 1, 50, 0) || l[52] != full("a") || l[53] != full("b") || len(d.Pending()) != 0 {
		t.Errorf("the slots behind a Checkpoint: %q, %q", l[0][:28], l[1][:28])
	}
	wantErrno(t, "Checkpoint again", j.Checkpoint(), api.OK)
	wantJournal(t, "Checkpoint again", j, 52, 2, 0)
	if l := d.Disk(); l[0] != slotOf(3, 2, 50, 3) || l[1] != slotOf(4, 2, 50, 3) {
		t.Errorf("the slots behind two: %q, %q", l[0][:28], l[1][:28])
	}
	commit(t, j, wr(54, "c"))
	wantJournal(t, "Commit behind it", j, 52, 3, 2)
	if l := d.Disk(); l[2+3] != frameOf(2, wr(54, "c"))[0] || l[2+4] != full("c") || l[2+5] != nought {
		t.Error("a frame behind a checkpoint is not where the others end")
	}
}

func TestNumbersGoRound(t *testing.T) {
	for _, at := range []uint64{1<<32 - 1, 1<<64 - 1, 1<<64 - 2, 1<<31 - 1, 1<<63 - 1} {
		for _, slots := range [][]string{{slotOf(at, at, 50, 7)}, {nought, slotOf(at, at, 50, 7)}} {
			disk := emptyDisk(60, slots...)
			_, s, _ := opened(disk)
			j := wantOpen(t, "numbers", disk)
			for i := range 30 {
				l := []api.Write{wr(52+i%8, "a"), wr(53, "b"), wr(54, "c")}
				lies, pending := after(j.Disk(), j.Pending(), s.commit(l...))
				commit(t, j, l...)
				wantState(t, "numbers", j, s)
				wantDisk(t, "numbers", j.Disk(), lies)
				wantPending(t, "numbers", j.Pending(), pending)
			}
			if j.Seq() != at+30 {
				t.Errorf("Seq behind 30 from %d on: %d", at, j.Seq())
			}
		}
		// frames whose numbers go round, in the log
		frames := [][]string{frameOf(at, wr(52, "a")), frameOf(at+1, wr(53, "b")), frameOf(at+2, wr(52, "c"))}
		j := wantOpen(t, "frames", layFrames(emptyDisk(60, slotOf(4, at, 50, 48)), 50, 48, frames...))
		wantJournal(t, "frames", j, 52, at+3, 0)
		if l := j.Disk(); l[52] != full("c") || l[53] != full("b") || l[1] != slotOf(5, at+3, 50, 4) {
			t.Error("frames whose numbers go round are not done")
		}
	}
}

// The frames of many Commits, going round many times, turn by turn as the document says.
func TestManyCommits(t *testing.T) {
	r := rand.New(rand.NewSource(8))
	for _, c := range [][2]int{{60, 50}, {62, 51}, {70, 60}, {200, 150}} {
		d := formatted(t, c[0], c[1])
		_, s, _ := opened(d.Disk())
		j := open(t, d)
		wantState(t, "a new one", j, s)
		for range 300 {
			var turns []turn
			disk, pending := d.Disk(), d.Pending()
			if r.Intn(12) == 0 {
				turns = s.checkpoint()
				wantErrno(t, "Checkpoint", j.Checkpoint(), api.OK)
			} else {
				var l []api.Write
				for range 1 + r.Intn(48)/(1+r.Intn(10)) {
					l = append(l, api.Write{Block: j.Home() + r.Intn(c[0]-j.Home()), Data: chosenText(r, 256)})
				}
				turns = s.commit(l...)
				commit(t, j, l...)
			}
			disk, pending = after(disk, pending, turns)
			wantDisk(t, "many", d.Disk(), disk)
			wantPending(t, "many", d.Pending(), pending)
			wantState(t, "many", j, s)
			if j.Used() >= c[1] {
				t.Fatalf("Used is %d of %d", j.Used(), c[1])
			}
		}
	}
}

// J5

// A crash: what is kept, what is torn, and where.
type crash struct {
	keep      []bool
	torn, cut int
}

// crashes are nothing, all, one and all but one of n pending writes kept, and one torn, with nothing and all others kept.
func crashes(n int) []crash {
	all := slices.Repeat([]bool{true}, n)
	l := []crash{{nil, -1, 0}, {all, -1, 0}}
	for k := range n {
		one, others := make([]bool, n), slices.Clone(all)
		one[k], others[k] = true, false
		l = append(l, crash{one, -1, 0}, crash{others, -1, 0})
		for _, cut := range []int{1, 4, 8, 17, 24, 128, 132, 250, 255} {
			l = append(l, crash{nil, k, cut}, crash{others, k, cut})
		}
	}
	return l
}

// wantOneOf opens a device twice, and wants home to be one of these, which have these numbers.
func wantOneOf(t *testing.T, what string, disk []string, homes [][]string, seqs []uint64) {
	t.Helper()
	d := deviceOf(t, disk)
	j := open(t, d)
	home := homeOf(t, j)
	i := slices.IndexFunc(homes, func(l []string) bool { return slices.Equal(l, home) })
	if i < 0 || j.Seq() != seqs[i] || j.Used() != 0 {
		t.Fatalf("%s: home is number %d of %d, Seq %d, Used %d; numbers %v", what, i, len(homes), j.Seq(), j.Used(), seqs)
	}
	again := open(t, d)
	if !slices.Equal(homeOf(t, again), home) || again.Seq() != seqs[i] {
		t.Fatalf("%s: a second Open has changed home", what)
	}
}

// wantCrashes lets the power go at each turn of a scene, in all of a crash's ways, and wants home to be old or new; new, if the scene was OK.
func wantCrashes(t *testing.T, what string, scene func() (*block.Device, func() api.Errno), homes [][]string, seqs []uint64) {
	t.Helper()
	for k := 0; ; k++ {
		d, run := scene()
		d.Fuse(k)
		e := run()
		for _, c := range crashes(len(d.Pending())) {
			if d.Pending() == nil {
				d, run = scene()
				d.Fuse(k)
				run()
			}
			d.Crash(c.keep, c.torn, c.cut)
			disk := d.Disk()
			if e == api.OK {
				wantOneOf(t, what, disk, homes[len(homes)-1:], seqs[len(seqs)-1:])
			} else {
				wantOneOf(t, what, disk, homes, seqs)
			}
		}
		if e == api.OK {
			return
		}
	}
}

func TestCrashOfACommit(t *testing.T) {
	for _, c := range []struct {
		what    string
		p       uint32
		earlier int // Commits of 9 blocks ahead of it
		l       []api.Write
	}{
		{"the first", 0, 0, []api.Write{wr(52, "a"), wr(59, "b")}},
		{"of one write", 0, 0, []api.Write{wr(55, "a")}},
		{"going round", 49, 0, []api.Write{wr(52, "a"), wr(59, "b")}},
		{"the second", 45, 1, []api.Write{wr(52, "a"), wr(53, "b"), wr(52, "c")}},
		{"behind a checkpoint", 30, 5, []api.Write{wr(52, "a"), wr(53, "b"), wr(59, "c"), wr(54, "d")}},
		{"just room", 3, 5, []api.Write{wr(52, "a"), wr(53, "b"), wr(59, "c")}},
	} {
		disk := emptyDisk(60, slotOf(4, 9, 50, c.p))
		for i := range 8 {
			disk[52+i] = full("o")
		}
		start := func() *Journal {
			j := open(t, deviceOf(t, disk))
			for i := range c.earlier {
				var l []api.Write
				for k := range 8 {
					l = append(l, wr(52+k, string(rune('A'+i))))
				}
				commit(t, j, l...)
			}
			return j
		}
		old := homeOf(t, start())
		seq := 9 + uint64(c.earlier)
		wantCrashes(t, "Commit, "+c.what, func() (*block.Device, func() api.Errno) {
			j := start()
			return j.Device, func() api.Errno { return j.Commit(c.l...) }
		}, [][]string{old, written(old, 52, c.l...)}, []uint64{seq, seq + 1})
		wantCrashes(t, "Checkpoint, "+c.what, func() (*block.Device, func() api.Errno) {
			j := start()
			return j.Device, j.Checkpoint
		}, [][]string{old}, []uint64{seq})
	}
}

// The power goes within Open, too, and within the Open behind that.
func TestCrashOfAnOpen(t *testing.T) {
	for _, c := range []struct {
		p      uint32
		frames [][]string
	}{
		{0, nil},
		{0, [][]string{frameOf(9, wr(52, "a"))}},
		{48, [][]string{frameOf(9, wr(52, "a"), wr(53, "b")), frameOf(10, wr(52, "c"))}},
		{20, [][]string{frameOf(9, wr(52, "a"), wr(53, "b"), wr(52, "d")), frameOf(10, wr(59, "c")), frameOf(11, wr(53, "e"))}},
	} {
		for at := range 2 {
			disk := emptyDisk(60)
			disk[at], disk[1-at] = slotOf(4, 9, 50, c.p), slotOf(3, 5, 50, 17)
			disk = layFrames(disk, 50, int(c.p), c.frames...)
			turns, s, _ := opened(disk)
			lies, _ := after(disk, nil, turns)
			home := lies[52:]
			scene := func(disk []string) func() (*block.Device, func() api.Errno) {
				return func() (*block.Device, func() api.Errno) {
					d := deviceOf(t, disk)
					return d, func() api.Errno { _, e := Open(d); return e }
				}
			}
			wantCrashes(t, "Open", scene(disk), [][]string{home}, []uint64{s.seq})
			for k := range len(turns) {
				d, run := scene(disk)()
				d.Fuse(k)
				run()
				d.Crash([]bool{false, true, false, true}, 0, 100)
				wantCrashes(t, "Open behind a crash of Open", scene(d.Disk()), [][]string{home}, []uint64{s.seq})
			}
		}
	}
}

// chosenCrash lets any part of what is pending be kept, and any write be torn.
func chosenCrash(r *rand.Rand, d *block.Device) {
	keep := make([]bool, len(d.Pending()))
	odds := r.Intn(5)
	for k := range keep {
		keep[k] = r.Intn(4) < odds
	}
	torn := r.Intn(len(keep)+2) - 1
	if torn >= 0 && torn < len(keep) {
		keep[torn] = false
	}
	d.Crash(keep, torn, r.Intn(257))
}

// A device that Format made, with its power gone again and again, anywhere.
func TestCrashesInARow(t *testing.T) {
	r := rand.New(rand.NewSource(9))
	for _, c := range [][2]int{{56, 50}, {60, 51}, {110, 60}, {260, 120}} {
		d := formatted(t, c[0], c[1])
		first := 2 + c[1]
		home := emptyDisk(c[0] - first)
		going := home // what home is, if the Commit that was going on is done
		seq := uint64(1)
		done := 0
		for range 250 {
			for r.Intn(3) == 0 {
				d.Fuse(r.Intn(12))
				Open(d)
				chosenCrash(r, d)
			}
			j := open(t, d)
			switch now := homeOf(t, j); {
			case slices.Equal(now, home) && j.Seq() == seq:
			case slices.Equal(now, going) && j.Seq() == seq+1:
				home, seq = going, seq+1
				done++
			default:
				t.Fatalf("home is not whole: Seq %d; %d Commits were OK", j.Seq(), seq-1)
			}
			going = home
			d.Fuse(r.Intn(80) + r.Intn(2)*r.Intn(300))
			for !d.Dead() {
				if r.Intn(8) == 0 {
					j.Checkpoint()
					continue
				}
				var l []api.Write
				for range 1 + r.Intn(48)/(1+r.Intn(12)) {
					l = append(l, api.Write{Block: first + r.Intn(c[0]-first), Data: chosenText(r, 256)})
				}
				going = written(home, first, l...)
				if j.Commit(l...) == api.OK {
					home = going
					seq++
				}
			}
			chosenCrash(r, d)
		}
		if done < 10 || seq < 500 {
			t.Errorf("only %d Commits that were going on were done, of %d", done, seq)
		}
	}
}

func TestTwoOpens(t *testing.T) {
	d := formatted(t, 60, 50)
	j := open(t, d)
	commit(t, j, wr(52, "a"), wr(53, "b"))
	commit(t, j, wr(52, "c"))
	d.Crash(nil, -1, 0)
	one := open(t, d)
	home := homeOf(t, one)
	if !slices.Equal(home, written(emptyDisk(8), 52, wr(52, "c"), wr(53, "b"))) {
		t.Error("home is not what was committed")
	}
	for k := range 5 {
		two := open(t, d)
		wantJournal(t, "another Open", two, 52, 3, 0)
		if !slices.Equal(homeOf(t, two), home) {
			t.Error("another Open has changed home")
		}
		if at := 1 - k%2; d.Disk()[at] != slotOf(uint64(4+k), 3, 50, 5) {
			t.Errorf("Open number %d: the slots are %q, %q", k, d.Disk()[0][:28], d.Disk()[1][:28])
		}
	}
}

// The device's own calls, through the journal

func TestDeviceOfAJournal(t *testing.T) {
	d := formatted(t, 60, 50)
	j := open(t, d)
	if j.Device != d || j.Blocks() != 60 || j.Dead() || len(j.Pending()) != 0 {
		t.Error("the journal's device is another one")
	}
	wantDisk(t, "Disk", j.Disk(), d.Disk())
	commit(t, j, wr(55, "a"))
	wantPending(t, "behind a Commit", j.Pending(), []api.Write{wr(55, "a")})
	wantErrno(t, "Flush", j.Flush(), api.OK)
	if d.Disk()[55] != full("a") || len(d.Pending()) != 0 {
		t.Error("Flush of the journal is not the device's")
	}
	wantErrno(t, "Write", j.Write(56, full("b")), api.OK)
	wantErrno(t, "Write of 60", j.Write(60, full("b")), api.ErrRange)
	wantErrno(t, "Write of a byte", j.Write(56, "b"), api.ErrSize)
	wantPending(t, "behind a Write", d.Pending(), []api.Write{wr(56, "b")})
	if s, e := j.Read(0); s != slotOf(1, 1, 50, 0) || e != api.OK {
		t.Errorf("Read(0): %q, %v", s, e)
	}
	if s, e := j.Read(2); s != frameOf(1, wr(55, "a"))[0] || e != api.OK {
		t.Errorf("Read(2): %q, %v", s, e)
	}
	wantJournal(t, "behind the device's calls", j, 52, 2, 2)
	j.Fuse(0)
	wantErrno(t, "Flush with a fuse", j.Flush(), api.ErrDead)
	if _, e := j.Read(0); !d.Dead() || !j.Dead() || e != api.ErrDead {
		t.Error("the power of the journal's device is not gone")
	}
	wantJournal(t, "without power", j, 52, 2, 2)
	j.Crash([]bool{true}, -1, 0)
	if s, _ := d.Read(56); s != full("b") || d.Dead() {
		t.Error("Crash of the journal is not the device's")
	}
}

// P1, P3, P4

func TestInputIsLetBe(t *testing.T) {
	d := formatted(t, 60, 50)
	j := open(t, d)
	l := []api.Write{wr(52, "a"), wr(53, "b"), wr(59, "behind")}
	was := slices.Clone(l)
	commit(t, j, l[:2]...)
	if !slices.Equal(l, was) {
		t.Error("Commit changes what it is given")
	}
	l[0], l[1] = wr(57, "x"), wr(58, "y")
	d.Crash(nil, -1, 0)
	if !slices.Equal(homeOf(t, open(t, d)), written(emptyDisk(8), 52, was[:2]...)) {
		t.Error("a later change of what was given is seen")
	}
}

func TestJournalsAreApart(t *testing.T) {
	one, other := open(t, formatted(t, 60, 50)), open(t, formatted(t, 70, 60))
	commit(t, one, wr(52, "a"))
	wantJournal(t, "the other one", other, 62, 1, 0)
	wantErrno(t, "Checkpoint", other.Checkpoint(), api.OK)
	wantJournal(t, "the one", one, 52, 2, 2)
	one.Fuse(0)
	wantErrno(t, "Commit of the fused one", one.Commit(wr(52, "b")), api.ErrDead)
	commit(t, other, wr(62, "b"))
}

// A journal that Open did not make tells some answer.
func TestJournalOfNothing(t *testing.T) {
	for _, n := range []int{1, 2, 3, 60} {
		d, _ := block.New(n)
		j := &Journal{Device: d}
		j.Commit(wr(n-1, "a"))
		j.Commit(slices.Repeat([]api.Write{wr(n-1, "a")}, 48)...)
		j.Checkpoint()
		j.Seq()
		j.Home()
		j.Used()
	}
	// the device of a journal is changed for a smaller one
	j := open(t, formatted(t, 200, 150))
	j.Device, _ = block.New(20)
	for range 10 {
		j.Commit(wr(152, "a"))
		j.Checkpoint()
	}
}
