package afile_test

import (
	"encoding/binary"
	"fmt"
	"hash/crc32"
	"maps"
	"slices"
	"strings"
	"testing"

	"codex/afile"
	"codex/api"
	"codex/block"
	"codex/inode"
	"codex/journal"
	"codex/store"
)

// What the document says, written down without the package's own code: files as a plain map from names to bytes, and what lies on the device.

var nought = strings.Repeat("\x00", 256)

// file is one of a plain map: its bytes, and the blocks where they lie.
type file struct {
	data   string
	sealed bool
	blocks []int
}

type plain struct {
	n, first int // the device's blocks, its first data block
	used     []bool
	files    map[string]*file
	wrote    []int // the files' blocks that the last call wrote
}

// plainOf is no files on a device of n blocks.
func plainOf(n int) *plain {
	p := &plain{n: n, first: 63 + (n+2047)/2048, used: make([]bool, n), files: map[string]*file{}}
	for i := range p.behind() {
		p.used[i] = true
	}
	return p
}

// behind is the block behind the directory's.
func (p *plain) behind() int { return p.first + 12 }

func (p *plain) copied() *plain {
	c := &plain{n: p.n, first: p.first, used: slices.Clone(p.used), files: map[string]*file{}}
	for name, f := range p.files {
		c.files[name] = &file{f.data, f.sealed, slices.Clone(f.blocks)}
	}
	return c
}

func (p *plain) names() []string { return slices.Sorted(maps.Keys(p.files)) }

func (p *plain) free() int {
	n := 0
	for _, used := range p.used {
		if !used {
			n++
		}
	}
	return n
}

// extentsOf is blocks as extents; in a file's order one begins anew where blocks are not beside one another.
func extentsOf(blocks []int) []api.Extent {
	var l []api.Extent
	for i, b := range blocks {
		if i == 0 || blocks[i-1]+1 != b {
			l = append(l, api.Extent{Start: b})
		}
		l[len(l)-1].Count++
	}
	return l
}

func (p *plain) list() []inode.File {
	var l []inode.File
	for _, name := range p.names() {
		f := p.files[name]
		l = append(l, inode.File{Name: name, Sealed: f.sealed, Size: len(f.data), Extents: extentsOf(f.blocks)})
	}
	return l
}

// summed is a directory's bytes up to the end of its Crc.
func summed(l []inode.File) string {
	b := binary.AppendUvarint([]byte("CDXI"), uint64(len(l)))
	for _, f := range l {
		b = append(binary.AppendUvarint(b, uint64(len(f.Name))), f.Name...)
		sealed := byte(0)
		if f.Sealed {
			sealed = 1
		}
		b = binary.AppendUvarint(append(b, sealed), uint64(f.Size))
		b = binary.AppendUvarint(b, uint64(len(f.Extents)))
		for _, x := range f.Extents {
			b = binary.AppendUvarint(binary.AppendUvarint(b, uint64(x.Start)), uint64(x.Count))
		}
	}
	return string(binary.LittleEndian.AppendUint32(b, crc32.ChecksumIEEE(b)))
}

// dirOf is the 12 blocks of a directory, right or not.
func dirOf(l []inode.File) string {
	s := summed(l)
	return s + strings.Repeat("\x00", 3072-len(s))
}

// length is how many of the 3072 bytes the directory needs.
func (p *plain) length() int { return len(summed(p.list())) }

func isName(s string) bool {
	return len(s) > 0 && len(s) < 25 && strings.Trim(s, "abcdefghijklmnopqrstuvwxyz0123456789.-_") == ""
}

// fits tells whether the directory has room for what the files are.
func (p *plain) fits() bool {
	for _, f := range p.files {
		if len(extentsOf(f.blocks)) > 16 {
			return false
		}
	}
	return p.length() <= 3072
}

func (p *plain) Create(name string) api.Errno {
	switch {
	case !isName(name):
		return api.ErrName
	case p.files[name] != nil:
		return api.ErrExists
	case len(p.files) == 64:
		return api.ErrMany
	}
	p.files[name] = &file{}
	if !p.fits() {
		return api.ErrFull
	}
	return api.OK
}

func (p *plain) Seal(name string) api.Errno {
	if p.files[name] == nil {
		return api.ErrNone
	}
	p.files[name].sealed = true
	return api.OK
}

func (p *plain) Delete(name string) api.Errno {
	f := p.files[name]
	if f == nil {
		return api.ErrNone
	}
	for _, b := range f.blocks {
		p.used[b] = false
	}
	delete(p.files, name)
	return api.OK
}

func (p *plain) Rename(from, to string) api.Errno {
	switch {
	case p.files[from] == nil:
		return api.ErrNone
	case !isName(to):
		return api.ErrName
	case from == to:
		return api.OK
	}
	p.Delete(to)
	p.files[to] = p.files[from]
	delete(p.files, from)
	if !p.fits() {
		return api.ErrFull
	}
	return api.OK
}

// piece is where so many blocks are allocated, and how many: those beside one another that come first, or the first of the longest rows.
func (p *plain) piece(need int) (int, int) {
	at, longest := 0, 0
	for i := 0; i < p.n; i++ {
		n := 0
		for i+n < p.n && !p.used[i+n] {
			n++
		}
		if n >= need {
			return i, need
		}
		if n > longest {
			at, longest = i, n
		}
		i += n
	}
	return at, longest
}

func (p *plain) Append(name, data string) api.Errno {
	f := p.files[name]
	switch {
	case f == nil:
		return api.ErrNone
	case f.sealed:
		return api.ErrSealed
	case len(data) >= 6001:
		return api.ErrLong
	case data == "":
		return api.OK
	}
	whole := len(f.data) / 256 // blocks that have no room
	f.data += data
	for need := (len(f.data)+255)/256 - len(f.blocks); need > 0; {
		at, n := p.piece(need)
		if n == 0 {
			return api.ErrFull
		}
		for i := range n {
			p.used[at+i] = true
			f.blocks = append(f.blocks, at+i)
		}
		need -= n
	}
	p.wrote = slices.Clone(f.blocks[whole:])
	if !p.fits() {
		return api.ErrFull
	}
	return api.OK
}

func (p *plain) ReadAt(name string, at, n int) (string, api.Errno) {
	f := p.files[name]
	switch {
	case f == nil:
		return "", api.ErrNone
	case at < 0 || at > len(f.data) || n < 0:
		return "", api.ErrRange
	}
	rest := f.data[at:]
	if n < len(rest) {
		rest = rest[:n]
	}
	return rest, api.OK
}

// mapOf is the blocks of the bitmap.
func (p *plain) mapOf() []string {
	b := make([]byte, (p.n+2047)/2048*256)
	for i, x := range p.used {
		if x {
			b[i/8] += 1 << (i % 8)
		}
	}
	var l []string
	for ; len(b) > 0; b = b[256:] {
		l = append(l, string(b[:256]))
	}
	return l
}

// dataOf is the bytes of a file's block.
func (p *plain) dataOf(block int) string {
	for _, f := range p.files {
		if k := slices.Index(f.blocks, block); k >= 0 {
			return (f.data[256*k:] + nought)[:256]
		}
	}
	return ""
}

// writes is what one transaction writes that makes p of what was: of the bitmap and the directory the blocks that are others, and those blocks of files that were written.
func (p *plain) writes(was *plain) []api.Write {
	var l []api.Write
	old := was.mapOf()
	for k, s := range p.mapOf() {
		if s != old[k] {
			l = append(l, api.Write{Block: 63 + k, Data: s})
		}
	}
	dir, oldDir := dirOf(p.list()), dirOf(was.list())
	for k := range 12 {
		if s := dir[256*k : 256*k+256]; s != oldDir[256*k:256*k+256] {
			l = append(l, api.Write{Block: p.first + k, Data: s})
		}
	}
	for _, b := range slices.Sorted(slices.Values(p.wrote)) {
		l = append(l, api.Write{Block: b, Data: p.dataOf(b)})
	}
	return l
}

// unlike tells how files, the power of whose device is there, are not what they are to be.
func (p *plain) unlike(f *afile.FS) string {
	if fault := p.unlikeList(f); fault != "" {
		return fault
	}
	for name, x := range p.files {
		if s, e := f.ReadAt(name, 0, len(x.data)+1); s != x.data || e != api.OK {
			return fmt.Sprintf("ReadAt(%s): %d bytes, %v; want %d. %s", name, len(s), e, len(x.data), firstUnlike(s, x.data))
		}
	}
	return ""
}

// unlikeList is unlike without the files' bytes; it may be asked while the power is gone, too.
func (p *plain) unlikeList(f *afile.FS) string {
	if l, want := f.List(), p.list(); !sameFiles(l, want) {
		return fmt.Sprintf("List: %v; want %v", l, want)
	}
	if free, used := f.Free(), f.Used(); free != p.free() || used != p.n-p.first-p.free() {
		return fmt.Sprintf("Free %d, Used %d; want %d, %d", free, used, p.free(), p.n-p.first-p.free())
	}
	if !f.Whole() {
		return "Whole: false"
	}
	return ""
}

func sameFiles(l, want []inode.File) bool {
	return slices.EqualFunc(l, want, func(a, b inode.File) bool {
		return a.Name == b.Name && a.Sealed == b.Sealed && a.Size == b.Size && slices.Equal(a.Extents, b.Extents)
	})
}

// firstUnlike tells the first byte that is another one.
func firstUnlike(s, want string) string {
	for i := range min(len(s), len(want)) {
		if s[i] != want[i] {
			return fmt.Sprintf("byte %d is %q; want %q", i, s[i], want[i])
		}
	}
	return ""
}

func wantFiles(t *testing.T, what string, f *afile.FS, p *plain) {
	t.Helper()
	if fault := p.unlike(f); fault != "" {
		t.Fatalf("%s: %s", what, fault)
	}
}

func wantErrno(t *testing.T, what string, got, want api.Errno) {
	t.Helper()
	if got != want {
		t.Fatalf("%s: %v; want %v", what, got, want)
	}
}

// wantDevice asks that on a device lies, and is pending, what lies and is pending on another.
func wantDevice(t *testing.T, what string, d, want *block.Device) {
	t.Helper()
	got, disk := d.Disk(), want.Disk()
	for i := range max(len(got), len(disk)) {
		if got[i] != disk[i] {
			t.Fatalf("%s: on block %d lies %.40q; want %.40q", what, i, got[i], disk[i])
		}
	}
	l, pending := d.Pending(), want.Pending()
	for k := range min(len(l), len(pending)) {
		if l[k] != pending[k] {
			t.Fatalf("%s: pending %d: %d, %.40q; want %d, %.40q", what, k, l[k].Block, l[k].Data, pending[k].Block, pending[k].Data)
		}
	}
	if len(l) != len(pending) || d.Dead() != want.Dead() {
		t.Fatalf("%s: %d are pending, the power is gone: %v; want %d, %v", what, len(l), d.Dead(), len(pending), want.Dead())
	}
}

// filled is a device of n blocks with bytes of its own on each, nothing pending.
func filled(t *testing.T, n int) *block.Device {
	t.Helper()
	disk := make([]string, n)
	for i := range disk {
		disk[i] = (fmt.Sprint("lay on ", i) + strings.Repeat(".", 256))[:256]
	}
	return deviceOf(t, disk)
}

func deviceOf(t *testing.T, disk []string) *block.Device {
	t.Helper()
	d, e := block.New(len(disk))
	for i := 0; i < len(disk) && e == api.OK; i++ {
		if disk[i] != nought {
			e = d.Write(i, disk[i])
		}
	}
	if e == api.OK {
		e = d.Flush()
	}
	wantErrno(t, "a device", e, api.OK)
	return d
}

// copyOf is another device with what lies on d, and what is pending there.
func copyOf(t *testing.T, d *block.Device) *block.Device {
	t.Helper()
	c := deviceOf(t, d.Disk())
	for _, w := range d.Pending() {
		wantErrno(t, "a pending write", c.Write(w.Block, w.Data), api.OK)
	}
	return c
}

// kill makes the power of a device go, without a change.
func kill(t *testing.T, d *block.Device) {
	t.Helper()
	d.Fuse(0)
	wantErrno(t, "Flush", d.Flush(), api.ErrDead)
}

// formatByStore does with the store's and the journal's calls what Format is to do.
func formatByStore(d *block.Device) api.Errno {
	if e := store.Format(d); e != api.OK {
		return e
	}
	j, e := journal.Open(d)
	if e != api.OK {
		return e
	}
	p := plainOf(d.Blocks())
	var l []api.Write
	for k := range 12 {
		l = append(l, api.Write{Block: p.first + k, Data: dirOf(nil)[256*k : 256*k+256]})
	}
	return j.Commit(append([]api.Write{{Block: 63, Data: p.mapOf()[0]}}, l...)...)
}

// laid is a device of a store: the data blocks that are used, what the directory's 12 blocks are, and what lies on others.
func laid(t *testing.T, used []bool, dir string, data map[int]string) *block.Device {
	t.Helper()
	d, _ := block.New(len(used))
	wantErrno(t, "Format", store.Format(d), api.OK)
	j, e := journal.Open(d)
	wantErrno(t, "journal.Open", e, api.OK)
	p := plainOf(len(used))
	p.used = used
	var l []api.Write
	for k, s := range p.mapOf() {
		l = append(l, api.Write{Block: 63 + k, Data: s})
	}
	for k := range len(dir) / 256 {
		l = append(l, api.Write{Block: p.first + k, Data: dir[256*k : 256*k+256]})
	}
	for _, b := range slices.Sorted(maps.Keys(data)) {
		l = append(l, api.Write{Block: b, Data: data[b]})
	}
	for some := range slices.Chunk(l, 48) {
		wantErrno(t, "journal.Commit", j.Commit(some...), api.OK)
	}
	wantErrno(t, "Flush", d.Flush(), api.OK)
	return d
}

// device is one on which the files lie.
func (p *plain) device(t *testing.T) *block.Device {
	t.Helper()
	data := map[int]string{}
	for _, f := range p.files {
		for _, b := range f.blocks {
			data[b] = p.dataOf(b)
		}
	}
	return laid(t, p.used, dirOf(p.list()), data)
}

// bytes is n bytes that are others for other names, and at other places.
func bytes(name string, n int) string {
	var b strings.Builder
	for b.Len() < n {
		fmt.Fprintf(&b, "%s:%d,", name, b.Len())
	}
	return b.String()[:n]
}

// lay gives a plain map a file of some bytes, on blocks that must be as many.
func (p *plain) lay(name string, size int, blocks ...int) {
	for _, b := range blocks {
		p.used[b] = true
	}
	p.files[name] = &file{data: bytes(name, size), blocks: blocks}
}

// span is n blocks from one on.
func span(from, n int) []int {
	var l []int
	for i := range n {
		l = append(l, from+i)
	}
	return l
}

// open opens files that must be there.
func open(t *testing.T, d *block.Device, most int) *afile.FS {
	t.Helper()
	f, e := afile.Open(d, most)
	if f == nil || e != api.OK {
		t.Fatalf("Open: %v, %v", f, e)
	}
	return f
}

// pair is files and what they are to be; on a twin of their device the journal's Commits are made that they are to make (unless the power was gone, and they go on: then they are alone, and their calls are to be OK).
type pair struct {
	alone   bool
	d, twin *block.Device
	f       *afile.FS
	j       *journal.Journal
	p       *plain
}

// newPair is no files on a device of n blocks.
func newPair(t *testing.T, n, most int) *pair {
	t.Helper()
	b := &pair{p: plainOf(n)}
	b.d, _ = block.New(n)
	b.twin, _ = block.New(n)
	wantErrno(t, "Format", afile.Format(b.d), api.OK)
	wantErrno(t, "Format, by the store", formatByStore(b.twin), api.OK)
	b.open(t, most)
	return b
}

// pairOf is files that lay there.
func pairOf(t *testing.T, p *plain) *pair {
	t.Helper()
	b := &pair{d: p.device(t), twin: p.device(t), p: p.copied()}
	b.open(t, 64)
	b.like(t, "opened")
	return b
}

// copied is the same once more, opened anew.
func (b *pair) copied(t *testing.T, most int) *pair {
	t.Helper()
	c := &pair{d: copyOf(t, b.d), twin: copyOf(t, b.twin), p: b.p.copied()}
	c.open(t, most)
	return c
}

// open opens the files, and the twin's journal.
func (b *pair) open(t *testing.T, most int) {
	t.Helper()
	var e api.Errno
	b.f = open(t, b.d, most)
	b.j, e = journal.Open(b.twin)
	wantErrno(t, "Open, by the journal", e, api.OK)
}

// fuse lets the power go, of both devices.
func (b *pair) fuse(n int) {
	b.d.Fuse(n)
	b.twin.Fuse(n)
}

func (b *pair) crash(keep []bool, torn, cut int) {
	b.d.Crash(keep, torn, cut)
	b.twin.Crash(keep, torn, cut)
}

// call is one of a row of calls.
type call struct {
	name string
	file string
	text string // the data, or the other name
	at   int
	n    int
}

func (x call) String() string {
	return fmt.Sprintf("%s(%q, %.12q of %d, %d, %d)", x.name, x.file, x.text, len(x.text), x.at, x.n)
}

func create(name string) call            { return call{name: "Create", file: name} }
func add(name, data string) call         { return call{name: "Append", file: name, text: data} }
func readAt(name string, at, n int) call { return call{name: "ReadAt", file: name, at: at, n: n} }
func seal(name string) call              { return call{name: "Seal", file: name} }
func rename(from, to string) call        { return call{name: "Rename", file: from, text: to} }
func remove(name string) call            { return call{name: "Delete", file: name} }

// caller is files, or a plain map.
type caller interface {
	Create(name string) api.Errno
	Append(name, data string) api.Errno
	ReadAt(name string, at, n int) (string, api.Errno)
	Seal(name string) api.Errno
	Rename(from, to string) api.Errno
	Delete(name string) api.Errno
}

// of makes a call; a plain map is to be thrown away behind an error.
func (x call) of(f caller) (string, api.Errno) {
	switch x.name {
	case "Create":
		return "", f.Create(x.file)
	case "Append":
		return "", f.Append(x.file, x.text)
	case "ReadAt":
		return f.ReadAt(x.file, x.at, x.n)
	case "Seal":
		return "", f.Seal(x.file)
	case "Rename":
		return "", f.Rename(x.file, x.text)
	}
	return "", f.Delete(x.file)
}

// do makes a call of the files, and tells its error, and how its answer is not what it is to be.
func (b *pair) do(x call) (api.Errno, string) {
	next := b.p.copied()
	text, e := x.of(b.f)
	want, wantE := x.of(next)
	if wantE == api.OK {
		wantE = b.commit(next)
	}
	if wantE == api.OK {
		b.p = next
	}
	if text != want || e != wantE {
		return e, fmt.Sprintf("%v: %d bytes, %v; want %d, %v. %s", x, len(text), e, len(want), wantE, firstUnlike(text, want))
	}
	return e, ""
}

// commit makes on the twin what a call is to write, if it is to write anything.
func (b *pair) commit(next *plain) api.Errno {
	l := next.writes(b.p)
	if b.alone || len(l) == 0 {
		return api.OK
	}
	return b.j.Commit(l...)
}

// errs makes a call whose answer must be that error.
func (b *pair) errs(t *testing.T, x call, want api.Errno) {
	t.Helper()
	e, fault := b.do(x)
	if fault != "" || e != want {
		t.Fatalf("%v: %v; want %v. %s", x, e, want, fault)
	}
}

// row makes calls that must all be OK, and asks what the files are behind each.
func (b *pair) row(t *testing.T, l ...call) {
	t.Helper()
	for _, x := range l {
		b.errs(t, x, api.OK)
		b.like(t, fmt.Sprint(x))
	}
}

// refused makes a call that must err, and asks that it changed nothing.
func (b *pair) refused(t *testing.T, x call, want api.Errno) {
	t.Helper()
	b.errs(t, x, want)
	b.like(t, fmt.Sprint(x))
}

// like asks what the files are, and what lies on their device.
func (b *pair) like(t *testing.T, what string) {
	t.Helper()
	wantFiles(t, what, b.f, b.p)
	if !b.alone {
		wantDevice(t, what, b.d, b.twin)
	}
}

// again opens the files anew, with another most, and asks what they are.
func (b *pair) again(t *testing.T, most int) {
	t.Helper()
	b.open(t, most)
	b.like(t, "opened again")
}
