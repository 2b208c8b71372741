package store_test

import (
	"encoding/binary"
	"fmt"
	"maps"
	"slices"
	"strings"
	"testing"

	"codex/api"
	"codex/block"
	"codex/journal"
	"codex/store"
)

// What the document says, written down without the package's own code: what lies at home, and a store as a plain list.

func full(s string) string { return strings.Repeat(s, 256) }

var nought = full("\x00")

// named is a block of its own for each name.
func named(name string) string { return (name + full("."))[:256] }

// firstOf is the first data block of a device of n blocks.
func firstOf(n int) int {
	if n > 2048 {
		return 65
	}
	return 64
}

// labelOf is the block 62 of a device of n blocks.
func labelOf(n int) string {
	return "CDXB" + string(binary.LittleEndian.AppendUint32(nil, uint32(n))) + nought[8:]
}

// mapOf is the blocks of a bitmap whose bits are these.
func mapOf(used []bool) []string {
	b := make([]byte, (len(used)+2047)/2048*256)
	for i, x := range used {
		if x {
			b[i/8] += 1 << (i % 8)
		}
	}
	var l []string
	for ; len(b) > 0; b = b[256:] {
		l = append(l, string(b[:256]))
	}
	return l
}

// homeOf is the block 62 and the bitmap, of a device whose blocks are used so.
func homeOf(used []bool) []api.Write {
	l := []api.Write{{Block: 62, Data: labelOf(len(used))}}
	for k, s := range mapOf(used) {
		l = append(l, api.Write{Block: 63 + k, Data: s})
	}
	return l
}

// fresh is which blocks are used of a new store.
func fresh(n int) []bool {
	used := make([]bool, n)
	for i := range firstOf(n) {
		used[i] = true
	}
	return used
}

// plain is a store: all its blocks, and what its transaction did.
type plain struct {
	n, first int
	used     []bool
	data     []string
	open     bool
	touched  map[int]bool
	was      *plain // ahead of the transaction
}

func plainOf(n int) *plain {
	p := &plain{n: n, first: firstOf(n), used: fresh(n), data: slices.Repeat([]string{nought}, n), touched: map[int]bool{}}
	p.was = p.copied()
	return p
}

func (p *plain) copied() *plain {
	return &plain{n: p.n, first: p.first, used: slices.Clone(p.used), data: slices.Clone(p.data), touched: map[int]bool{}}
}

func (p *plain) isData(i int) bool { return i >= p.first && i < p.n }

func (p *plain) free() int {
	n := 0
	for i := p.first; i < p.n; i++ {
		if !p.used[i] {
			n++
		}
	}
	return n
}

func (p *plain) extents() []api.Extent {
	var l []api.Extent
	for i := p.first; i < p.n; i++ {
		for n := 1; p.used[i]; n++ {
			if i+n == p.n || !p.used[i+n] {
				l = append(l, api.Extent{Start: i, Count: n})
				i += n
				break
			}
		}
	}
	return l
}

func (p *plain) read(i int) (string, api.Errno) {
	if !p.isData(i) {
		return "", api.ErrRange
	}
	return p.data[i], api.OK
}

func (p *plain) begin() api.Errno {
	if p.open {
		return api.ErrState
	}
	p.open = true
	return api.OK
}

// touch touches blocks, if these are not too many.
func (p *plain) touch(l ...int) api.Errno {
	next := maps.Clone(p.touched)
	for _, i := range l {
		next[i] = true
	}
	if len(next) >= 49 {
		return api.ErrMany
	}
	p.touched = next
	return api.OK
}

// turn turns the bits of blocks.
func (p *plain) turn(start, n int, on bool) api.Errno {
	var l []int
	for i := start; i < start+n; i++ {
		l = append(l, 63+i/2048)
	}
	if e := p.touch(l...); e != api.OK {
		return e
	}
	for i := start; i < start+n; i++ {
		p.used[i] = on
	}
	return api.OK
}

func (p *plain) write(i int, data string) api.Errno {
	switch {
	case !p.open:
		return api.ErrState
	case !p.isData(i):
		return api.ErrRange
	case !p.used[i]:
		return api.ErrNone
	case len(data) != 256:
		return api.ErrSize
	}
	e := p.touch(i)
	if e == api.OK {
		p.data[i] = data
	}
	return e
}

func (p *plain) alloc(n int) (int, api.Errno) {
	if !p.open {
		return 0, api.ErrState
	}
	if n < 1 {
		return 0, api.ErrArg
	}
	row := 0
	for i := p.first; i < p.n; i++ {
		row++
		if p.used[i] {
			row = 0
		}
		if row == n {
			if e := p.turn(i-n+1, n, true); e != api.OK {
				return 0, e
			}
			return i - n + 1, api.OK
		}
	}
	return 0, api.ErrFull
}

func (p *plain) release(start, n int) api.Errno {
	if !p.open {
		return api.ErrState
	}
	if n < 1 || n > p.n || !p.isData(start) || !p.isData(start+n-1) {
		return api.ErrRange
	}
	if slices.Contains(p.used[start:start+n], false) {
		return api.ErrNone
	}
	return p.turn(start, n, false)
}

// writes is what Commit is to hand to the journal.
func (p *plain) writes() []api.Write {
	var l []api.Write
	for _, i := range slices.Sorted(maps.Keys(p.touched)) {
		data := p.data[i]
		if i < p.first {
			data = mapOf(p.used)[i-63]
		}
		l = append(l, api.Write{Block: i, Data: data})
	}
	return l
}

// done makes what the transaction did stay, undone forgets it.
func (p *plain) done() {
	p.open, p.touched = false, map[int]bool{}
	p.was = p.copied()
}

func (p *plain) undone() {
	p.used, p.data = slices.Clone(p.was.used), slices.Clone(p.was.data)
	p.open, p.touched = false, map[int]bool{}
}

// unlike tells how a store, whose power is there, is not what it is to be.
func (p *plain) unlike(s *store.Store) string {
	if s.First() != p.first {
		return fmt.Sprintf("First: %d; want %d", s.First(), p.first)
	}
	if s.Free() != p.free() {
		return fmt.Sprintf("Free: %d; want %d", s.Free(), p.free())
	}
	if l := s.Used(); !slices.Equal(l, p.extents()) {
		return fmt.Sprintf("Used: %v; want %v", l, p.extents())
	}
	for i := p.first - 1; i <= p.n; i++ {
		if fault := p.unlikeRead(s, i); fault != "" {
			return fault
		}
	}
	return ""
}

func (p *plain) unlikeRead(s *store.Store, i int) string {
	data, e := s.Read(i)
	want, wantE := p.read(i)
	if data != want || e != wantE {
		return fmt.Sprintf("Read(%d): %.20q, %v; want %.20q, %v", i, data, e, want, wantE)
	}
	return ""
}

func wantStore(t *testing.T, what string, s *store.Store, p *plain) {
	t.Helper()
	if fault := p.unlike(s); fault != "" {
		t.Fatalf("%s: %s", what, fault)
	}
}

// filled is a device of n blocks with bytes of its own on each, nothing pending.
func filled(t *testing.T, n int) *block.Device {
	t.Helper()
	disk := make([]string, n)
	for i := range disk {
		disk[i] = named(fmt.Sprint("lay on ", i))
	}
	return deviceOf(t, disk)
}

func deviceOf(t *testing.T, disk []string) *block.Device {
	t.Helper()
	d, e := block.New(len(disk))
	for i := 0; i < len(disk) && e == api.OK; i++ {
		if disk[i] != nought {
			e = d.Write(i, disk[i])
		}
	}
	if e == api.OK {
		e = d.Flush()
	}
	if e != api.OK {
		t.Fatal(e)
	}
	return d
}

// copyOf is another device with what lies on d, and what is pending there.
func copyOf(t *testing.T, d *block.Device) *block.Device {
	t.Helper()
	c := deviceOf(t, d.Disk())
	for _, w := range d.Pending() {
		wantErrno(t, "a pending write", c.Write(w.Block, w.Data), api.OK)
	}
	return c
}

func wantErrno(t *testing.T, what string, got, want api.Errno) {
	t.Helper()
	if got != want {
		t.Fatalf("%s: %v; want %v", what, got, want)
	}
}

// wantDevice asks that on a device lies, and is pending, what lies and is pending on another.
func wantDevice(t *testing.T, what string, d, want *block.Device) {
	t.Helper()
	got, disk := d.Disk(), want.Disk()
	for i := range max(len(got), len(disk)) {
		if got[i] != disk[i] {
			t.Fatalf("%s: on block %d lies %.40q; want %.40q", what, i, got[i], disk[i])
		}
	}
	l, pending := d.Pending(), want.Pending()
	for k := range min(len(l), len(pending)) {
		if l[k] != pending[k] {
			t.Fatalf("%s: pending %d: %d, %.40q; want %d, %.40q", what, k, l[k].Block, l[k].Data, pending[k].Block, pending[k].Data)
		}
	}
	if len(l) != len(pending) || d.Dead() != want.Dead() {
		t.Fatalf("%s: %d are pending, the power is gone: %v; want %d, %v", what, len(l), d.Dead(), len(pending), want.Dead())
	}
}

// kill makes the power of a device go, without a change.
func kill(t *testing.T, d *block.Device) {
	t.Helper()
	d.Fuse(0)
	wantErrno(t, "Flush", d.Flush(), api.ErrDead)
}

// formatByJournal does with the journal's calls what Format is to do.
func formatByJournal(d *block.Device) api.Errno {
	if e := journal.Format(d, 60); e != api.OK {
		return e
	}
	j, e := journal.Open(d)
	if e != api.OK {
		return e
	}
	return j.Commit(homeOf(fresh(d.Blocks()))...)
}

// open opens a store that must be there.
func open(t *testing.T, d *block.Device, most int) *store.Store {
	t.Helper()
	s, e := store.Open(d, most)
	if s == nil || e != api.OK {
		t.Fatalf("Open: %v, %v", s, e)
	}
	return s
}

// formatted is a device of noughts that was formatted, and its store.
func formatted(t *testing.T, n int) (*block.Device, *store.Store) {
	t.Helper()
	d, _ := block.New(n)
	wantErrno(t, "Format", store.Format(d), api.OK)
	return d, open(t, d, 64)
}

// pair is a store and what it is to be; on a twin of its device the journal's calls are made that it is to make (unless its power was gone, and it goes on: then it is alone, and its Commits are to be OK).
type pair struct {
	alone   bool
	d, twin *block.Device
	s       *store.Store
	j       *journal.Journal
	p       *plain
}

func newPair(t *testing.T, n, most int) *pair {
	t.Helper()
	b := &pair{p: plainOf(n)}
	b.d, _ = block.New(n)
	b.twin, _ = block.New(n)
	wantErrno(t, "Format", store.Format(b.d), api.OK)
	wantErrno(t, "Format, by the journal", formatByJournal(b.twin), api.OK)
	b.open(t, most)
	return b
}

// copied is the same once more, opened anew.
func (b *pair) copied(t *testing.T, most int) *pair {
	t.Helper()
	c := &pair{d: copyOf(t, b.d), twin: copyOf(t, b.twin), p: b.p.copied()}
	c.p.was = c.p.copied()
	c.open(t, most)
	return c
}

// open opens the store, and the twin's journal.
func (b *pair) open(t *testing.T, most int) {
	t.Helper()
	var e api.Errno
	b.s = open(t, b.d, most)
	b.j, e = journal.Open(b.twin)
	wantErrno(t, "Open, by the journal", e, api.OK)
}

// fuse lets the power go, of both devices.
func (b *pair) fuse(n int) {
	b.d.Fuse(n)
	b.twin.Fuse(n)
}

func (b *pair) crash(keep []bool, torn, cut int) {
	b.d.Crash(keep, torn, cut)
	b.twin.Crash(keep, torn, cut)
}

// call is one of a row of calls.
type call struct {
	name string
	i, n int
	data string
}

func (x call) String() string {
	return fmt.Sprintf("%s(%d, %d, %.12q of %d)", x.name, x.i, x.n, x.data, len(x.data))
}

func begin() call                   { return call{name: "Begin"} }
func write(i int, data string) call { return call{name: "Write", i: i, data: data} }
func alloc(n int) call              { return call{name: "Alloc", n: n} }
func release(start, n int) call     { return call{name: "Release", i: start, n: n} }
func commit() call                  { return call{name: "Commit"} }
func abort() call                   { return call{name: "Abort"} }

// do makes a call of the store, and tells its answer, and how that is not what it is to be.
func (b *pair) do(x call) (int, api.Errno, string) {
	var at, wantAt int
	var got, want api.Errno
	switch x.name {
	case "Begin":
		got, want = b.s.Begin(), b.p.begin()
	case "Write":
		got, want = b.s.Write(x.i, x.data), b.p.write(x.i, x.data)
	case "Alloc":
		at, got = b.s.Alloc(x.n)
		wantAt, want = b.p.alloc(x.n)
	case "Release":
		got, want = b.s.Release(x.i, x.n), b.p.release(x.i, x.n)
	case "Commit":
		got, want = b.s.Commit(), b.commit()
	case "Abort":
		b.s.Abort()
		b.p.undone()
	default:
		return 0, 0, "no call " + x.name
	}
	if at != wantAt || got != want {
		return at, got, fmt.Sprintf("%v: %d, %v; want %d, %v", x, at, got, wantAt, want)
	}
	return at, got, ""
}

// commit is Commit, by the plain list and the journal.
func (b *pair) commit() api.Errno {
	if !b.p.open {
		return api.ErrState
	}
	e := api.OK
	if l := b.p.writes(); len(l) > 0 && !b.alone {
		e = b.j.Commit(l...)
	}
	if e == api.OK {
		b.p.done()
	} else {
		b.p.undone()
	}
	return e
}

// row makes calls that must all be OK, and asks what the store is behind them.
func (b *pair) row(t *testing.T, l ...call) {
	t.Helper()
	for _, x := range l {
		b.errs(t, x, api.OK)
	}
	b.like(t, fmt.Sprint(l[len(l)-1]))
}

// errs makes a call whose answer must be that error.
func (b *pair) errs(t *testing.T, x call, want api.Errno) {
	t.Helper()
	_, e, fault := b.do(x)
	if fault != "" || e != want {
		t.Fatalf("%v: %v; want %v. %s", x, e, want, fault)
	}
}

// refused makes a call that must err, and asks that it changed nothing.
func (b *pair) refused(t *testing.T, x call, want api.Errno) {
	t.Helper()
	b.errs(t, x, want)
	b.like(t, fmt.Sprint(x))
}

// like asks what the store is, and what lies on its device.
func (b *pair) like(t *testing.T, what string) {
	t.Helper()
	wantStore(t, what, b.s, b.p)
	if !b.alone {
		wantDevice(t, what, b.d, b.twin)
	}
}
