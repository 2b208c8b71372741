package journal

import (
	"encoding/binary"
	"hash/crc32"
	"math/rand"
	"slices"
	"strings"
	"testing"

	"codex/api"
	"codex/block"
)

// What the document says, written down without the package's own code: blocks, turns, and what a journal is behind them.

func full(s string) string { return strings.Repeat(s, 256) }

var nought = strings.Repeat("\x00", 256)

// wr is a write of 256 times a byte.
func wr(i int, s string) api.Write { return api.Write{Block: i, Data: full(s)} }

func chosenText(r *rand.Rand, n int) string {
	b := make([]byte, n)
	for i := range b {
		b[i] = byte(r.Intn(256))
	}
	return string(b)
}

func number(v uint32) string { return string(binary.LittleEndian.AppendUint32(nil, v)) }

// laid is s with other bytes at a place.
func laid(s string, at int, bytes string) string { return s[:at] + bytes + s[at+len(bytes):] }

func slotOf(e, s uint64, log, p uint32) string {
	b := []byte("CDXS")
	b = binary.LittleEndian.AppendUint64(b, e)
	b = binary.LittleEndian.AppendUint64(b, s)
	b = binary.LittleEndian.AppendUint32(b, log)
	b = binary.LittleEndian.AppendUint32(b, p)
	b = append(b, make([]byte, 128-len(b))...)
	return string(b) + string(b)
}

func frameOf(seq uint64, l ...api.Write) []string {
	head := make([]byte, 256)
	copy(head, "CDXT")
	binary.LittleEndian.PutUint64(head[4:], seq)
	binary.LittleEndian.PutUint32(head[12:], uint32(len(l)))
	var data []string
	for i, w := range l {
		binary.LittleEndian.PutUint32(head[16+4*i:], uint32(w.Block))
		data = append(data, w.Data)
	}
	summed := string(head[:248]) + strings.Join(data, "")
	binary.LittleEndian.PutUint32(head[248:], crc32.ChecksumIEEE([]byte(summed)))
	copy(head[252:], "CDXE")
	return append([]string{string(head)}, data...)
}

// turn is a Write, or a Flush.
type turn struct {
	flush bool
	w     api.Write
}

func put(i int, data string) turn { return turn{w: api.Write{Block: i, Data: data}} }

func flushed() turn { return turn{flush: true} }

// after is what lies on a device, and what is pending, behind some turns.
func after(disk []string, pending []api.Write, l []turn) ([]string, []api.Write) {
	disk, pending = slices.Clone(disk), slices.Clone(pending)
	for _, x := range l {
		if !x.flush {
			pending = append(pending, x.w)
			continue
		}
		for _, w := range pending {
			disk[w.Block] = w.Data
		}
		pending = nil
	}
	return disk, pending
}

// state is what a journal is to be.
type state struct {
	log    int
	at     int // the block of the slot that counts
	e      uint64
	p, own int // the place and the blocks of the frames
	seq    uint64
}

// place is the block i blocks behind the frames.
func (s *state) place(i int) int { return 2 + (s.p+s.own+i)%s.log }

func (s *state) checkpoint() []turn {
	behind := s.place(0)
	s.e++
	s.at = 1 - s.at
	s.p = behind - 2
	s.own = 0
	return []turn{put(behind, nought), flushed(), put(s.at, slotOf(s.e, s.seq, uint32(s.log), uint32(s.p))), flushed()}
}

func (s *state) commit(l ...api.Write) []turn {
	var turns []turn
	if len(l)+1+1 > s.log-s.own {
		turns = s.checkpoint()
	}
	f := frameOf(s.seq, l...)
	for i := 1; i < len(f); i++ {
		turns = append(turns, put(s.place(i), f[i]))
	}
	turns = append(turns, put(s.place(len(f)), nought), flushed(), put(s.place(0), f[0]), flushed())
	for _, w := range l {
		turns = append(turns, turn{w: w})
	}
	s.own += len(f)
	s.seq++
	return turns
}

// slotIn reads a slot byte by byte.
func slotIn(s string, blocks int) (e, seq uint64, log, p int, ok bool) {
	b := []byte(s)
	e, seq = binary.LittleEndian.Uint64(b[4:]), binary.LittleEndian.Uint64(b[12:])
	log, p = int(binary.LittleEndian.Uint32(b[20:])), int(binary.LittleEndian.Uint32(b[24:]))
	ok = s[:4] == "CDXS" && s[28:128] == strings.Repeat("\x00", 100) && s[:128] == s[128:] && log >= 50 && log <= blocks-3 && p < log
	return e, seq, log, p, ok
}

// frameIn reads the frame that a row of blocks begins with, byte by byte.
func frameIn(row []string) (seq uint64, l []api.Write, ok bool) {
	if len(row) == 0 || row[0][:4] != "CDXT" || row[0][252:] != "CDXE" {
		return 0, nil, false
	}
	head := []byte(row[0])
	n := int(binary.LittleEndian.Uint32(head[12:]))
	if n < 1 || n > 48 || n > len(row)-1 {
		return 0, nil, false
	}
	for i := range n {
		l = append(l, api.Write{Block: int(binary.LittleEndian.Uint32(head[16+4*i:])), Data: row[1+i]})
	}
	seq = binary.LittleEndian.Uint64(head[4:])
	return seq, l, slices.Equal(row[:n+1], frameOf(seq, l...))
}

// opened is what Open is to do with a device on which this lies: its turns, and the journal behind it; false, if no slot counts.
func opened(disk []string) ([]turn, state, bool) {
	var s state
	found := false
	for i := range min(2, len(disk)) {
		if e, seq, log, p, ok := slotIn(disk[i], len(disk)); ok && (!found || e > s.e) {
			found, s = true, state{log: log, at: i, e: e, p: p, seq: seq}
		}
	}
	if !found {
		return nil, state{}, false
	}
	row := append(slices.Clone(disk[2+s.p:2+s.log]), disk[2:2+s.p]...)
	var turns []turn
	for {
		seq, l, ok := frameIn(row)
		for _, w := range l {
			ok = ok && w.Block >= 2+s.log && w.Block < len(disk)
		}
		if !ok || seq != s.seq {
			break
		}
		for _, w := range l {
			turns = append(turns, turn{w: w})
		}
		row = row[len(l)+1:]
		s.own += len(l) + 1
		s.seq++
	}
	return append(turns, s.checkpoint()...), s, true
}

// deviceOf is a device on which this lies, with nothing pending.
func deviceOf(t *testing.T, disk []string) *block.Device {
	t.Helper()
	d, e := block.New(len(disk))
	for i := 0; i < len(disk) && e == api.OK; i++ {
		if disk[i] != nought {
			e = d.Write(i, disk[i])
		}
	}
	if e == api.OK {
		e = d.Flush()
	}
	if e != api.OK {
		t.Fatal(e)
	}
	return d
}

// emptyDisk is n blocks of noughts, with these slots.
func emptyDisk(n int, slots ...string) []string {
	disk := slices.Repeat([]string{nought}, n)
	copy(disk, slots)
	return disk
}

// layFrames lays frames, one behind the other, into a disk's log, from a place on.
func layFrames(disk []string, log, p int, frames ...[]string) []string {
	disk = slices.Clone(disk)
	for _, f := range frames {
		for _, b := range f {
			disk[2+p%log] = b
			p++
		}
	}
	return disk
}

func formatted(t *testing.T, n, log int) *block.Device {
	t.Helper()
	d, e := block.New(n)
	if e == api.OK {
		e = Format(d, log)
	}
	if e != api.OK {
		t.Fatalf("a device of %d blocks, a log of %d: %v", n, log, e)
	}
	return d
}

func open(t *testing.T, d *block.Device) *Journal {
	t.Helper()
	j, e := Open(d)
	if e != api.OK || j == nil {
		t.Fatalf("Open: %v, %v", j, e)
	}
	return j
}

func commit(t *testing.T, j *Journal, l ...api.Write) {
	t.Helper()
	if e := j.Commit(l...); e != api.OK {
		t.Fatalf("Commit of %d writes: %v", len(l), e)
	}
}

func wantErrno(t *testing.T, what string, got, want api.Errno) {
	t.Helper()
	if got != want {
		t.Errorf("%s: %v; want %v", what, got, want)
	}
}

func wantJournal(t *testing.T, what string, j *Journal, home int, seq uint64, used int) {
	t.Helper()
	if j.Home() != home || j.Seq() != seq || j.Used() != used {
		t.Errorf("%s: Home %d, Seq %d, Used %d; want %d, %d, %d", what, j.Home(), j.Seq(), j.Used(), home, seq, used)
	}
}

func wantState(t *testing.T, what string, j *Journal, s state) {
	t.Helper()
	wantJournal(t, what, j, 2+s.log, s.seq, s.own)
}

func wantDisk(t *testing.T, what string, got, want []string) {
	t.Helper()
	if len(got) != len(want) {
		t.Fatalf("%s: %d blocks; want %d", what, len(got), len(want))
	}
	for i := range got {
		if got[i] != want[i] {
			t.Fatalf("%s: block %d: %q; want %q", what, i, got[i], want[i])
		}
	}
}

func wantPending(t *testing.T, what string, got, want []api.Write) {
	t.Helper()
	if len(got) != len(want) {
		t.Fatalf("%s: %d pending; want %d", what, len(got), len(want))
	}
	for k := range got {
		if got[k] != want[k] {
			t.Fatalf("%s: pending %d: %d, %q; want %d, %q", what, k, got[k].Block, got[k].Data, want[k].Block, want[k].Data)
		}
	}
}

// wantTurns runs a scene once for each of the turns that it is to have, with the power gone there, and once to its end.
func wantTurns(t *testing.T, what string, scene func() (*block.Device, func() api.Errno), turns []turn) {
	t.Helper()
	for k := range len(turns) + 1 {
		d, run := scene()
		disk, pending := after(d.Disk(), d.Pending(), turns[:k])
		d.Fuse(k)
		want := api.ErrDead
		if k == len(turns) {
			want = api.OK
		}
		wantErrno(t, what, run(), want)
		if d.Dead() != (k < len(turns)) {
			t.Fatalf("%s: of %d turns, %d had: the power is gone: %v", what, len(turns), k, d.Dead())
		}
		wantDisk(t, what, d.Disk(), disk)
		wantPending(t, what, d.Pending(), pending)
		wantErrno(t, what+": a turn more", d.Flush(), api.ErrDead)
	}
}

// wantOpen opens a device on which this lies, and holds it against the document's words, turn by turn.
func wantOpen(t *testing.T, what string, disk []string) *Journal {
	t.Helper()
	turns, s, ok := opened(disk)
	if !ok {
		d := deviceOf(t, disk)
		j, e := Open(d)
		if j != nil || e != api.ErrNone {
			t.Fatalf("%s: Open: %v, %v; want nil, ErrNone", what, j, e)
		}
		wantDisk(t, what, d.Disk(), disk)
		wantPending(t, what, d.Pending(), nil)
		return nil
	}
	var last *Journal
	wantTurns(t, what, func() (*block.Device, func() api.Errno) {
		d := deviceOf(t, disk)
		return d, func() api.Errno {
			j, e := Open(d)
			if (j == nil) != (e != api.OK) {
				t.Errorf("%s: Open: %v, %v", what, j, e)
			}
			last = j
			return e
		}
	}, turns)
	wantState(t, what, last, s)
	last.Crash(nil, -1, 0)
	return last
}

// homeOf is what Read tells of home.
func homeOf(t *testing.T, j *Journal) []string {
	t.Helper()
	var l []string
	for i := j.Home(); i < j.Blocks(); i++ {
		s, e := j.Read(i)
		if e != api.OK {
			t.Fatalf("Read(%d): %v", i, e)
		}
		l = append(l, s)
	}
	return l
}

// written is a home in which writes were done.
func written(home []string, first int, l ...api.Write) []string {
	home = slices.Clone(home)
	for _, w := range l {
		home[w.Block-first] = w.Data
	}
	return home
}
