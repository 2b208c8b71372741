package block

import (
	"math"
	"math/rand"
	"slices"
	"strings"
	"testing"

	"codex/api"
)

func fill(s string) string { return strings.Repeat(s, api.BlockSize) }

// over is the block old with the first n bytes of data laid over it.
func over(data, old string, n int) string { return data[:n] + old[n:] }

func device(t *testing.T, n int) *Device {
	t.Helper()
	d, e := New(n)
	if e != api.OK || d == nil {
		t.Fatalf("New(%d): %v", n, e)
	}
	return d
}

func write(t *testing.T, d *Device, i int, data string) {
	t.Helper()
	if e := d.Write(i, data); e != api.OK {
		t.Fatalf("Write(%d): %v", i, e)
	}
}

func flush(t *testing.T, d *Device) {
	t.Helper()
	if e := d.Flush(); e != api.OK {
		t.Fatalf("Flush: %v", e)
	}
}

func wantRead(t *testing.T, d *Device, i int, want string) {
	t.Helper()
	if s, e := d.Read(i); s != want || e != api.OK {
		t.Errorf("Read(%d): %q, %v; want %q", i, s, e, want)
	}
}

func wantDisk(t *testing.T, d *Device, want ...string) {
	t.Helper()
	l := d.Disk()
	if len(l) != len(want) {
		t.Errorf("Disk: %d blocks; want %d", len(l), len(want))
		return
	}
	for i := range l {
		if l[i] != want[i] {
			t.Errorf("Disk, block %d: %q; want %q", i, l[i], want[i])
			return
		}
	}
}

func wantPending(t *testing.T, d *Device, want ...api.Write) {
	t.Helper()
	l := d.Pending()
	if len(l) != len(want) {
		t.Errorf("Pending: %d; want %d", len(l), len(want))
		return
	}
	for k := range l {
		if l[k] != want[k] {
			t.Errorf("Pending, number %d: %d, %q; want %d, %q", k, l[k].Block, l[k].Data, want[k].Block, want[k].Data)
			return
		}
	}
}

func wantErrno(t *testing.T, what string, got, want api.Errno) {
	t.Helper()
	if got != want {
		t.Errorf("%s: %v; want %v", what, got, want)
	}
}

// D1

func TestNewOutOfRange(t *testing.T) {
	for _, n := range []int{math.MinInt, -1, 0, 4097, math.MaxInt} {
		if d, e := New(n); d != nil || e != api.ErrRange {
			t.Errorf("New(%d): %v, %v; want nil, ErrRange", n, d, e)
		}
	}
}

func TestNewDevice(t *testing.T) {
	for _, n := range []int{1, 2, 4095, 4096} {
		d := device(t, n)
		if d.Blocks() != n || d.Dead() {
			t.Errorf("New(%d): %d blocks, dead %v", n, d.Blocks(), d.Dead())
		}
		wantPending(t, d)
		wantDisk(t, d, slices.Repeat([]string{fill("\x00")}, n)...)
		wantRead(t, d, n-1, fill("\x00"))
		write(t, d, n-1, fill("z"))
		flush(t, d)
		wantRead(t, d, n-1, fill("z"))
		if d.Blocks() != n {
			t.Errorf("Blocks behind a write: %d; want %d", d.Blocks(), n)
		}
	}
}

func TestNewHasNoFuse(t *testing.T) {
	d := device(t, 1)
	for range 1000 {
		write(t, d, 0, fill("a"))
		flush(t, d)
	}
}

func TestDevicesAreApart(t *testing.T) {
	c, d := device(t, 1), device(t, 1)
	write(t, c, 0, fill("a"))
	flush(t, c)
	c.Fuse(0)
	wantErrno(t, "Flush of the fused one", c.Flush(), api.ErrDead)
	wantDisk(t, d, fill("\x00"))
	wantErrno(t, "Flush of the other", d.Flush(), api.OK)
}

func TestAnswersShareNothing(t *testing.T) {
	d := device(t, 2)
	write(t, d, 0, fill("a"))
	write(t, d, 1, fill("b"))
	p := d.Pending()
	p[0] = api.Write{Block: 1, Data: "x"}
	_ = append(p[:1], api.Write{Block: 7, Data: "x"})
	wantPending(t, d, api.Write{Block: 0, Data: fill("a")}, api.Write{Block: 1, Data: fill("b")})
	held := d.Pending()
	flush(t, d)
	write(t, d, 0, fill("c"))
	if held[0].Data != fill("a") {
		t.Error("Pending that was answered has changed")
	}
	l := d.Disk()
	l[0] = "x"
	wantDisk(t, d, fill("a"), fill("b"))
	flush(t, d)
	if l[0] != "x" || l[1] != fill("b") {
		t.Error("Disk that was answered has changed")
	}
}

// D2

func TestReadTellsTheLastPending(t *testing.T) {
	d := device(t, 3)
	write(t, d, 1, fill("a"))
	flush(t, d)
	wantRead(t, d, 1, fill("a"))
	write(t, d, 1, fill("b"))
	write(t, d, 0, fill("c"))
	write(t, d, 1, fill("d"))
	write(t, d, 0, fill("e"))
	wantRead(t, d, 0, fill("e"))
	wantRead(t, d, 1, fill("d"))
	wantRead(t, d, 2, fill("\x00"))
	wantDisk(t, d, fill("\x00"), fill("a"), fill("\x00"))
	wantPending(t, d, api.Write{Block: 1, Data: fill("b")}, api.Write{Block: 0, Data: fill("c")},
		api.Write{Block: 1, Data: fill("d")}, api.Write{Block: 0, Data: fill("e")})
}

func TestFlushLaysInOrder(t *testing.T) {
	d := device(t, 3)
	write(t, d, 1, fill("b"))
	write(t, d, 0, fill("c"))
	write(t, d, 1, fill("d"))
	flush(t, d)
	wantDisk(t, d, fill("c"), fill("d"), fill("\x00"))
	wantPending(t, d)
	flush(t, d)
	wantDisk(t, d, fill("c"), fill("d"), fill("\x00"))
}

func TestManyArePending(t *testing.T) {
	d := device(t, 4096)
	var want []api.Write
	for k := range 5000 {
		w := api.Write{Block: k % 4096, Data: fill(string([]byte{byte(1 + k%255)}))}
		write(t, d, w.Block, w.Data)
		want = append(want, w)
	}
	wantPending(t, d, want...)
	wantRead(t, d, 0, want[4096].Data)
	wantRead(t, d, 1000, want[1000].Data)
	flush(t, d)
	wantPending(t, d)
	wantRead(t, d, 0, want[4096].Data)
	wantRead(t, d, 1000, want[1000].Data)
}

func TestEachByteIsKept(t *testing.T) {
	var b [api.BlockSize]byte
	for i := range b {
		b[i] = byte(i)
	}
	d := device(t, 1)
	write(t, d, 0, string(b[:]))
	wantRead(t, d, 0, string(b[:]))
	flush(t, d)
	b[0] = 9
	wantRead(t, d, 0, "\x00"+string(b[1:]))
}

func TestNumberIsNoBlock(t *testing.T) {
	d := device(t, 2)
	for _, i := range []int{math.MinInt, -1, 2, 3, math.MaxInt} {
		if s, e := d.Read(i); s != "" || e != api.ErrRange {
			t.Errorf("Read(%d): %q, %v; want ErrRange", i, s, e)
		}
		wantErrno(t, "Write of no block", d.Write(i, fill("x")), api.ErrRange)
		wantErrno(t, "Write of no block and no size", d.Write(i, "x"), api.ErrRange)
	}
	wantPending(t, d)
	wantDisk(t, d, fill("\x00"), fill("\x00"))
}

func TestDataOfAnotherSize(t *testing.T) {
	d := device(t, 2)
	for _, n := range []int{0, 1, 255, 257, 512} {
		wantErrno(t, "Write of another size", d.Write(1, strings.Repeat("x", n)), api.ErrSize)
	}
	wantPending(t, d)
	wantErrno(t, "Write of 256 bytes", d.Write(1, strings.Repeat("x", 256)), api.OK)
	wantRead(t, d, 1, fill("x"))
}

func TestFaultsAreNoTurns(t *testing.T) {
	d := device(t, 2)
	for _, fuse := range []int{0, 1} {
		d.Fuse(fuse)
		wantErrno(t, "Write of no block", d.Write(2, fill("x")), api.ErrRange)
		wantErrno(t, "Write of no size", d.Write(0, "x"), api.ErrSize)
		wantRead(t, d, 0, fill("\x00"))
		if d.Dead() {
			t.Errorf("fuse %d: dead without a turn", fuse)
		}
	}
	wantErrno(t, "the turn that is left", d.Write(0, fill("a")), api.OK)
	wantErrno(t, "a turn more", d.Write(0, fill("a")), api.ErrDead)
}

func TestDeadComesFirst(t *testing.T) {
	d := device(t, 2)
	write(t, d, 0, fill("a"))
	flush(t, d)
	write(t, d, 0, fill("b"))
	d.Fuse(0)
	wantErrno(t, "Flush", d.Flush(), api.ErrDead)
	for _, i := range []int{-1, 0, 1, 2} {
		if s, e := d.Read(i); s != "" || e != api.ErrDead {
			t.Errorf("Read(%d): %q, %v; want ErrDead", i, s, e)
		}
		wantErrno(t, "Write", d.Write(i, fill("x")), api.ErrDead)
		wantErrno(t, "Write of another size", d.Write(i, "x"), api.ErrDead)
	}
	wantErrno(t, "Flush", d.Flush(), api.ErrDead)
	wantDisk(t, d, fill("a"), fill("\x00"))
	wantPending(t, d, api.Write{Block: 0, Data: fill("b")})
	if d.Blocks() != 2 {
		t.Error("Blocks of a dead device:", d.Blocks())
	}
}

func TestPowerGoesAtAWrite(t *testing.T) {
	d := device(t, 1)
	write(t, d, 0, fill("a"))
	d.Fuse(0)
	wantErrno(t, "Write", d.Write(0, fill("b")), api.ErrDead)
	wantPending(t, d, api.Write{Block: 0, Data: fill("a")})
	if !d.Dead() {
		t.Error("not dead")
	}
}

// D3

// turn is a Write or a Flush, by turns.
func turn(d *Device, k int) api.Errno {
	if k%2 == 0 {
		return d.Write(0, fill("a"))
	}
	return d.Flush()
}

func TestFuseCountsTurns(t *testing.T) {
	for n := range 6 {
		for first := range 2 {
			d := device(t, 1)
			d.Fuse(n)
			for k := range n {
				wantErrno(t, "a turn within the fuse", turn(d, first+k), api.OK)
				if d.Dead() {
					t.Errorf("fuse %d: dead behind %d turns", n, k+1)
				}
			}
			disk, pending := d.Disk(), d.Pending()
			wantErrno(t, "the turn behind the fuse", turn(d, first+n), api.ErrDead)
			if !d.Dead() {
				t.Errorf("fuse %d: not dead", n)
			}
			wantDisk(t, d, disk...)
			wantPending(t, d, pending...)
		}
	}
}

func TestFuseBelowNought(t *testing.T) {
	for _, n := range []int{-1, -7, math.MinInt} {
		d := device(t, 1)
		d.Fuse(0)
		d.Fuse(n)
		for range 100 {
			wantErrno(t, "Write", d.Write(0, fill("a")), api.OK)
			wantErrno(t, "Flush", d.Flush(), api.OK)
		}
	}
}

func TestFuseIsSetAnew(t *testing.T) {
	d := device(t, 1)
	d.Fuse(math.MaxInt)
	write(t, d, 0, fill("a"))
	d.Fuse(1)
	d.Fuse(2)
	write(t, d, 0, fill("b"))
	flush(t, d)
	wantErrno(t, "the third turn", d.Flush(), api.ErrDead)
}

func TestFuseBringsNoPower(t *testing.T) {
	for _, n := range []int{-1, 0, 5} {
		d := device(t, 1)
		d.Fuse(0)
		wantErrno(t, "Flush", d.Flush(), api.ErrDead)
		d.Fuse(n)
		wantErrno(t, "Flush behind a new fuse", d.Flush(), api.ErrDead)
		if !d.Dead() {
			t.Errorf("Fuse(%d) brought the power back", n)
		}
	}
}

// D4

// left is what a crash leaves of block i, told byte by byte, so that it does not repeat how the device goes about it.
func left(old string, i int, pending []api.Write, keep []bool, torn, cut int) string {
	b := []byte(old)
	for at := range b {
		for k := len(pending) - 1; k >= 0; k-- {
			whole := k < len(keep) && keep[k]
			if pending[k].Block == i && (whole || k == torn && at < cut) {
				b[at] = pending[k].Data[at]
				break
			}
		}
	}
	return string(b)
}

func TestCrashKeepsAndTears(t *testing.T) {
	pending := []api.Write{{Block: 0, Data: fill("a")}, {Block: 1, Data: fill("b")}, {Block: 0, Data: fill("c")}}
	for long := range 6 {
		for bits := range 1 << long {
			keep := make([]bool, long)
			for k := range keep {
				keep[k] = bits>>k&1 == 1
			}
			for _, torn := range []int{math.MinInt, -1, 0, 1, 2, 3, math.MaxInt} {
				for _, cut := range []int{math.MinInt, -1, 0, 1, 3, 255, 256, 257, math.MaxInt} {
					d := device(t, 3)
					for i := range 3 {
						write(t, d, i, fill("o"))
					}
					flush(t, d)
					for _, w := range pending {
						write(t, d, w.Block, w.Data)
					}
					was := slices.Clone(keep)
					d.Crash(keep, torn, cut)
					wantDisk(t, d, left(fill("o"), 0, pending, keep, torn, cut), left(fill("o"), 1, pending, keep, torn, cut), fill("o"))
					wantPending(t, d)
					if !slices.Equal(keep, was) {
						t.Error("keep was written into")
					}
				}
			}
		}
	}
}

func TestCrashReadsNothingBehindKeep(t *testing.T) {
	d := device(t, 1)
	write(t, d, 0, fill("a"))
	write(t, d, 0, fill("b"))
	keep := []bool{true, true}
	d.Crash(keep[:1], -1, 0)
	wantDisk(t, d, fill("a"))
}

func TestCrashTearsOverWhatLies(t *testing.T) {
	d := device(t, 1)
	write(t, d, 0, fill("o"))
	flush(t, d)
	for _, data := range []string{fill("a"), fill("b"), fill("c")} {
		write(t, d, 0, data)
	}
	d.Crash([]bool{true, false, true}, 1, 7)
	wantDisk(t, d, fill("c"))
	for _, data := range []string{fill("d"), fill("e"), fill("f")} {
		write(t, d, 0, data)
	}
	d.Crash([]bool{true}, 2, 255)
	wantDisk(t, d, over(fill("f"), fill("d"), 255))
}

func TestCrashBringsThePowerWithoutAFuse(t *testing.T) {
	d := device(t, 1)
	d.Fuse(1)
	write(t, d, 0, fill("a"))
	wantErrno(t, "Flush", d.Flush(), api.ErrDead)
	d.Crash(nil, 0, 2)
	if d.Dead() {
		t.Error("dead behind a crash")
	}
	wantRead(t, d, 0, over(fill("a"), fill("\x00"), 2))
	write(t, d, 0, fill("b"))
	flush(t, d)
	wantRead(t, d, 0, fill("b"))
}

func TestCrashOfALivingDevice(t *testing.T) {
	d := device(t, 1)
	d.Fuse(1)
	d.Crash(nil, -1, 0)
	write(t, d, 0, fill("a"))
	write(t, d, 0, fill("b"))
	d.Crash([]bool{true}, 0, 0)
	wantRead(t, d, 0, fill("a"))
	d.Crash([]bool{true, true}, 0, 256)
	wantRead(t, d, 0, fill("a"))
}

// D5

// chosen does some turns that the numbers of r choose.
func chosen(t *testing.T, d *Device, r *rand.Rand) {
	t.Helper()
	for range r.Intn(6) {
		write(t, d, r.Intn(d.Blocks()), fill(string(rune('a'+r.Intn(26)))))
	}
	if r.Intn(3) == 0 {
		flush(t, d)
	}
}

func view(t *testing.T, d *Device) []string {
	t.Helper()
	var l []string
	for i := range d.Blocks() {
		s, e := d.Read(i)
		wantErrno(t, "Read", e, api.OK)
		l = append(l, s)
	}
	return l
}

func TestCrashThatKeepsAll(t *testing.T) {
	r := rand.New(rand.NewSource(1))
	d := device(t, 5)
	for range 300 {
		chosen(t, d, r)
		was := view(t, d)
		d.Crash(slices.Repeat([]bool{true}, len(d.Pending())), r.Intn(4), r.Intn(257))
		wantDisk(t, d, was...)
		if !slices.Equal(view(t, d), was) {
			t.Error("another view behind a crash that keeps all")
		}
	}
}

func TestCrashThatKeepsNothing(t *testing.T) {
	r := rand.New(rand.NewSource(2))
	d := device(t, 5)
	for range 300 {
		flush(t, d)
		flushed := view(t, d)
		for range r.Intn(6) {
			write(t, d, r.Intn(5), fill("x"))
		}
		d.Crash(nil, -1, 256)
		wantDisk(t, d, flushed...)
		if !slices.Equal(view(t, d), flushed) {
			t.Error("another view behind a crash that keeps nothing")
		}
		chosen(t, d, r)
	}
}

func TestWhatWasFlushedLies(t *testing.T) {
	r := rand.New(rand.NewSource(3))
	for range 300 {
		d := device(t, 6)
		chosen(t, d, r)
		flush(t, d)
		flushed := view(t, d)
		for range r.Intn(6) {
			write(t, d, r.Intn(3), fill("x"))
		}
		keep := make([]bool, r.Intn(8))
		for k := range keep {
			keep[k] = r.Intn(2) == 0
		}
		d.Crash(keep, r.Intn(6), r.Intn(300))
		if l := d.Disk(); !slices.Equal(l[3:], flushed[3:]) {
			t.Error("blocks were touched of which nothing was pending")
		}
		was := d.Disk()
		d.Crash([]bool{true, true}, 0, 256)
		wantDisk(t, d, was...)
	}
}

// What the document's examples say.

func TestExamples(t *testing.T) {
	a, b, o := fill("a"), fill("b"), fill("\x00")
	d := device(t, 2)
	wantRead(t, d, 0, o)
	write(t, d, 0, a)
	wantRead(t, d, 0, a)
	wantPending(t, d, api.Write{Block: 0, Data: a})
	wantDisk(t, d, o, o)
	write(t, d, 0, b)
	d.Crash([]bool{true}, 1, 3)
	wantRead(t, d, 0, "bbb"+strings.Repeat("a", 253))

	d = device(t, 2)
	d.Fuse(1)
	wantErrno(t, "Write", d.Write(0, a), api.OK)
	wantErrno(t, "Write", d.Write(1, a), api.ErrDead)
	_, e := d.Read(0)
	wantErrno(t, "Read", e, api.ErrDead)
	if !d.Dead() {
		t.Error("not dead")
	}

	d = device(t, 2)
	wantErrno(t, "Write", d.Write(2, a), api.ErrRange)
	wantErrno(t, "Write", d.Write(0, "x"), api.ErrSize)
	_, e = New(0)
	wantErrno(t, "New", e, api.ErrRange)
}

// P1, P4

func TestDeviceThatWasNotMadeByNew(t *testing.T) {
	var d Device
	if d.Blocks() != 0 || d.Dead() || len(d.Pending()) != 0 || len(d.Disk()) != 0 {
		t.Error("a device of nothing has something")
	}
	_, e := d.Read(0)
	wantErrno(t, "Read", e, api.ErrRange)
	wantErrno(t, "Write", d.Write(0, fill("a")), api.ErrRange)
	wantErrno(t, "Flush", d.Flush(), api.OK)
	d.Crash([]bool{true}, 0, 3)
}
