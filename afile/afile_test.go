package afile_test

import (
	"fmt"
	"math"
	"slices"
	"strings"
	"testing"

	"codex/afile"
	"codex/api"
	"codex/block"
	"codex/inode"
	"codex/journal"
	"codex/store"
)

// Examples

func TestExamples(t *testing.T) {
	d, _ := block.New(128)
	wantErrno(t, "Format", afile.Format(d), api.OK)
	f, e := afile.Open(d, 64)
	wantErrno(t, "Open", e, api.OK)
	if f.Free() != 52 || f.Used() != 12 {
		t.Fatalf("Free %d, Used %d", f.Free(), f.Used())
	}
	wantErrno(t, "Create(a)", f.Create("a"), api.OK)
	wantErrno(t, "Create(a) again", f.Create("a"), api.ErrExists)
	wantErrno(t, "Append", f.Append("a", bytes("a", 300)), api.OK)
	if f.Free() != 50 {
		t.Fatalf("Free %d", f.Free())
	}
	for _, x := range []struct {
		at   int
		want string
		e    api.Errno
	}{{250, bytes("a", 300)[250:], api.OK}, {300, "", api.OK}, {301, "", api.ErrRange}} {
		s, e := f.ReadAt("a", x.at, 100)
		if s != x.want || e != x.e {
			t.Fatalf("ReadAt(a, %d, 100): %q, %v", x.at, s, e)
		}
	}
	wantErrno(t, "Seal", f.Seal("a"), api.OK)
	wantErrno(t, "Append to a sealed file", f.Append("a", "x"), api.ErrSealed)
	wantErrno(t, "Rename(a, b)", f.Rename("a", "b"), api.OK)
	wantErrno(t, "Rename(a, c)", f.Rename("a", "c"), api.ErrNone)
	wantErrno(t, "Delete(b)", f.Delete("b"), api.OK)
	if f.Free() != 52 {
		t.Fatalf("Free %d", f.Free())
	}
}

// A1

func TestFormatOfFewBlocks(t *testing.T) {
	for _, n := range []int{1, 2, 62, 63, 64, 76, 100, 127} {
		d, want := filled(t, n), filled(t, n)
		d.Fuse(0)
		wantErrno(t, "Format", afile.Format(d), api.ErrRange)
		wantDevice(t, fmt.Sprint("Format of ", n), d, want) // it had no turn
	}
}

func TestFormat(t *testing.T) {
	for _, n := range []int{128, 129, 2047, 2048, 2049, 4095, 4096} {
		d, twin := filled(t, n), filled(t, n)
		lay := d.Disk()
		wantErrno(t, "Format", afile.Format(d), api.OK)
		wantErrno(t, "Format, by the store", formatByStore(twin), api.OK)
		wantDevice(t, fmt.Sprint("Format of ", n), d, twin)
		p := plainOf(n)
		f := open(t, d, 64)
		wantFiles(t, fmt.Sprint("Format of ", n), f, p)
		if f.Used() != 12 || f.Free() != n-p.first-12 {
			t.Fatalf("of %d blocks Used %d, Free %d", n, f.Used(), f.Free())
		}
		d.Flush()
		disk := d.Disk()
		if s := strings.Join(disk[p.first:p.behind()], ""); s != dirOf(nil) {
			t.Fatalf("of %d blocks the directory is %q", n, s)
		}
		if !slices.Equal(disk[p.behind():], lay[p.behind():]) {
			t.Fatalf("Format of %d wrote blocks behind the directory", n)
		}
	}
}

func TestFormatAgain(t *testing.T) {
	b := newPair(t, 128, 64)
	b.row(t, create("a"), add("a", bytes("a", 5000)), create("b"), seal("b"))
	wantErrno(t, "Format", afile.Format(b.d), api.OK)
	wantFiles(t, "formatted again", open(t, b.d, 64), plainOf(128))
}

func TestFormatWithoutPower(t *testing.T) {
	for _, n := range []int{128, 4096} {
		d, want := filled(t, n), filled(t, n)
		kill(t, d)
		kill(t, want)
		wantErrno(t, "Format", afile.Format(d), api.ErrDead)
		wantDevice(t, "Format", d, want)
	}
}

// wantNoFiles asks that Open, with the smallest and the greatest most, tells an error.
func wantNoFiles(t *testing.T, what string, d *block.Device, want api.Errno) {
	t.Helper()
	for _, most := range []int{64, 65, 1024} {
		if f, e := afile.Open(copyOf(t, d), most); f != nil || e != want {
			t.Fatalf("%s: Open(.., %d): %v, %v; want nil, %v", what, most, f, e, want)
		}
	}
}

func TestOpenMost(t *testing.T) {
	p := plainOf(128)
	p.lay("a", 300, 80, 90)
	for _, most := range []int{64, 65, 100, 1023, 1024} {
		wantFiles(t, fmt.Sprint("most of ", most), open(t, p.device(t), most), p)
	}
	for _, most := range []int{63, 1025, 0, 1, -1, -64, math.MinInt, math.MaxInt} {
		if f, e := afile.Open(p.device(t), most); f != nil || e != api.ErrRange {
			t.Errorf("Open(.., %d): %v, %v", most, f, e)
		}
		blank, _ := block.New(128)
		if f, e := afile.Open(blank, most); f != nil || e != api.ErrRange {
			t.Errorf("Open(nothing, %d): %v, %v", most, f, e)
		}
	}
}

func TestOpenOfNoStore(t *testing.T) {
	for _, n := range []int{1, 2, 100, 128, 4096} {
		blank, _ := block.New(n)
		wantNoFiles(t, "noughts", blank, api.ErrNone)
		wantNoFiles(t, "other bytes", filled(t, n), api.ErrNone)
	}
	for _, log := range []int{59, 60, 61} {
		d, _ := block.New(128)
		wantErrno(t, "journal.Format", journal.Format(d, log), api.OK)
		wantNoFiles(t, fmt.Sprint("a journal with a log of ", log), d, api.ErrForm)
	}
	d := plainOf(128).device(t)
	kill(t, d)
	if f, e := afile.Open(d, 64); f != nil || e != api.ErrDead {
		t.Errorf("Open without power: %v, %v", f, e)
	}
}

func TestOpenOfNewStore(t *testing.T) {
	for _, n := range []int{128, 2049} {
		d, _ := block.New(n)
		wantErrno(t, "store.Format", store.Format(d), api.OK)
		wantNoFiles(t, "a new store", d, api.ErrForm)
	}
}

// Each of the 12 blocks must be used.
func TestOpenWithoutTheDirectorysBlocks(t *testing.T) {
	for _, n := range []int{128, 2049} {
		for k := range 12 {
			p := plainOf(n)
			p.lay("a", 300, 100, 99)
			d := laid(t, p.used, dirOf(p.list()), nil)
			wantFiles(t, "all of its blocks are used", open(t, d, 64), func() *plain { p.files["a"].data = strings.Repeat("\x00", 300); return p }())
			p.used[p.first+k] = false
			wantNoFiles(t, fmt.Sprint("block ", k, " is not used"), laid(t, p.used, dirOf(p.list()), nil), api.ErrForm)
		}
	}
}

func TestOpenOfNoDirectory(t *testing.T) {
	p := plainOf(128)
	p.lay("a", 300, 76, 77)
	good := dirOf(p.list())
	turned := func(i int) string { return good[:i] + string(good[i]^1) + good[i+1:] }
	for what, dir := range map[string]string{
		"noughts":                  strings.Repeat("\x00", 3072),
		"other bytes":              bytes("x", 3072),
		"another begin":            "CDXJ" + good[4:],
		"another Crc":              turned(len(summed(p.list())) - 1),
		"another name, an old Crc": turned(6),
		"a byte behind":            turned(3071),
		"a byte behind the Crc":    turned(len(summed(p.list()))),
		"a half":                   good[:8] + strings.Repeat("\x00", 3064),
	} {
		wantNoFiles(t, what, laid(t, p.used, dir, nil), api.ErrForm)
	}
	open(t, laid(t, p.used, good, nil), 64)
}

// wantWrongList asks that a directory of some list is not right, all blocks being used that it names.
func wantWrongList(t *testing.T, what string, n int, l ...inode.File) {
	t.Helper()
	p := plainOf(n)
	for _, f := range l {
		for _, x := range f.Extents {
			for i := x.Start; i < x.Start+x.Count; i++ {
				if i >= 0 && i < n {
					p.used[i] = true
				}
			}
		}
	}
	wantNoFiles(t, what, laid(t, p.used, dirOf(l), nil), api.ErrForm)
}

func fileOf(name string, size int, blocks ...int) inode.File {
	return inode.File{Name: name, Size: size, Extents: extentsOf(blocks)}
}

func TestOpenOfWrongDirectory(t *testing.T) {
	for _, n := range []int{128, 2049} {
		first := plainOf(n).first
		for k := range 12 {
			wantWrongList(t, fmt.Sprint("a file in the directory's block ", k), n, fileOf("a", 1, first+k))
		}
		wantWrongList(t, "a file over the directory's end", n, fileOf("a", 512, first+11, first+12))
		wantWrongList(t, "a file ahead of the directory", n, fileOf("a", 1, first-1))
		wantWrongList(t, "a file in block 0", n, fileOf("a", 1, 0))
		wantWrongList(t, "a file behind the device", n, fileOf("a", 1, n))
		wantWrongList(t, "a file over the device's end", n, fileOf("a", 512, n-1, n))
	}
	wantWrongList(t, "a block twice", 128, fileOf("a", 1, 80), fileOf("b", 1, 80))
	wantWrongList(t, "a block too few", 128, fileOf("a", 257, 80))
	wantWrongList(t, "a block too many", 128, fileOf("a", 256, 80, 81))
	wantWrongList(t, "names that do not rise", 128, fileOf("b", 1, 80), fileOf("a", 1, 81))
	wantWrongList(t, "a name twice", 128, fileOf("a", 1, 80), fileOf("a", 1, 81))
	wantWrongList(t, "no name", 128, fileOf("A", 1, 80))
}

// The blocks of the files and of the directory are just those that are used.
func TestOpenOfOtherBlocks(t *testing.T) {
	for _, n := range []int{128, 2060} {
		p := plainOf(n)
		last := []int{n - 1, n - 2}
		p.lay("a", 600, 78, 79, 90)
		p.lay("b", 300, last...)
		wantFiles(t, "just those", open(t, p.device(t), 64), p)
		for b := p.behind(); b < n; b += 1 + n/1000*7 {
			q := p.copied()
			q.used[b] = !q.used[b]
			wantNoFiles(t, fmt.Sprint("block ", b, " turned"), q.device(t), api.ErrForm)
		}
		for _, b := range []int{78, 79, 90, n - 2, n - 1, 77, 80, n - 3} {
			q := p.copied()
			q.used[b] = !q.used[b]
			wantNoFiles(t, fmt.Sprint("block ", b, " turned"), q.device(t), api.ErrForm)
		}
		q := p.copied()
		q.used[78], q.used[100] = false, true
		wantNoFiles(t, "as many, but others", q.device(t), api.ErrForm)
	}
}

// Extents in any order, and ones that touch others.
func TestOpenOfManyExtents(t *testing.T) {
	p := plainOf(128)
	p.lay("a", 256*5+1, 90, 89, 80, 77, 78, 79)
	p.lay("b", 256*3, 91, 127, 76)
	p.lay("c", 0)
	p.files["c"].sealed = true
	p.lay("d", 256*16, 126, 124, 122, 120, 118, 116, 114, 112, 110, 108, 106, 104, 102, 100, 98, 96)
	b := pairOf(t, p)
	b.row(t, add("a", bytes("more", 600)), remove("b"), seal("d"), rename("d", "a"))
	b.again(t, 1024)
	q := plainOf(128)
	for i := range 52 { // all blocks, in no order
		q.lay(fmt.Sprintf("f%02d", i), 1, 76+(i*7)%52)
	}
	pairOf(t, q).refused(t, add("f00", bytes("", 256)), api.ErrFull)
}

// A2

func TestCreate(t *testing.T) {
	b := newPair(t, 128, 64)
	b.row(t, create("m"), create("a"), create("z"), create("0"), create("."), create("-"), create("_"), create("a.1-_"), create(strings.Repeat("x", 24)))
	b.refused(t, create("m"), api.ErrExists)
	b.refused(t, create(strings.Repeat("x", 24)), api.ErrExists)
	if l := b.f.List(); l[0].Name != "-" || len(l) != 9 || l[8].Name != "z" {
		t.Errorf("List: %v", l)
	}
	b.again(t, 100)
}

// noNames are texts that are no names.
func noNames() []string {
	l := []string{"", " ", "a ", " a", "A", "Z", "aB", "a/b", "a\x00", "\x00", "ä", "\xff", "a\n", strings.Repeat("x", 25), strings.Repeat("x", 1000), "a`", "{", "a:b", "a,b", "a^", "@"}
	for c := range 256 {
		if s := string([]byte{'a', byte(c)}); !isName(s) {
			l = append(l, s)
		}
	}
	return l
}

func TestCreateNoName(t *testing.T) {
	b := newPair(t, 128, 64)
	b.row(t, create("a"))
	for _, s := range noNames() {
		b.errs(t, create(s), api.ErrName)
	}
	b.like(t, "behind no names")
}

// many is n files without blocks.
func many(n int) *plain {
	p := plainOf(1000)
	for i := range n {
		p.lay(fmt.Sprintf("file%02d", i), 0)
	}
	return p
}

func TestCreateMany(t *testing.T) {
	b := pairOf(t, many(63))
	b.row(t, create("last"))
	b.refused(t, create("more"), api.ErrMany)
	b.refused(t, create("last"), api.ErrExists) // ahead of ErrMany
	b.refused(t, create("file00"), api.ErrExists)
	b.refused(t, create("No"), api.ErrName)
	b.again(t, 64)
	b.refused(t, create("more"), api.ErrMany)
	b.row(t, remove("file07"), create("more"))
	b.refused(t, create("file07"), api.ErrMany)
	b.row(t, rename("file08", "file09"), create("file07"))
	b.refused(t, create("file08"), api.ErrMany)
}

// long is files whose directory needs just so many bytes: some of 16 extents, and one that is empty.
func long(t *testing.T, want int) *plain {
	t.Helper()
	p := plainOf(4096)
	for i := 0; ; i++ {
		q := p.copied()
		var blocks []int
		for k := range 16 {
			blocks = append(blocks, 200+40*i+2*k)
		}
		q.lay(fmt.Sprintf("file%02d", i), 16*256, blocks...)
		if q.length() > want-8 {
			break
		}
		p = q
	}
	for i := 0; p.length() < want; i++ {
		// an empty file needs four bytes more than its name has
		left := want - p.length()
		if left > 28 {
			left = min(28, left-10)
		}
		p.lay((fmt.Sprint("e", i) + strings.Repeat("x", 24))[:left-4], 0)
	}
	if p.length() != want || len(p.files) > 62 {
		t.Fatalf("%d bytes, %d files; want %d bytes", p.length(), len(p.files), want)
	}
	return p
}

func TestCreateLong(t *testing.T) {
	for left := 5; left < 30; left++ {
		name := "n" + strings.Repeat("y", left-5) // it needs just what is left
		b := pairOf(t, long(t, 3072-left))
		if left < 28 {
			b.refused(t, create(name+"z"), api.ErrFull)
		}
		b.refused(t, create("file00"), api.ErrExists)
		b.refused(t, create(name+"Z"), api.ErrName)
		if len(name) <= 24 {
			b.row(t, create(name))
			b.refused(t, create(name), api.ErrExists)
		}
		b.again(t, 64)
	}
}

// Of 64 files ErrMany comes ahead of ErrFull.
func TestCreateManyAndLong(t *testing.T) {
	p := plainOf(4096)
	for i := range 64 {
		p.lay(fmt.Sprintf("file%02d-%s", i, strings.Repeat("x", 17)), 0)
	}
	for i, name := range p.names() {
		for n := 1; n <= 16 && p.length() <= 3072-12; n++ {
			p.lay(name, 256*n, gaps(200+40*i, n)...)
		}
	}
	if p.length() > 3072 || p.length() < 3072-12 {
		t.Fatalf("%d bytes", p.length())
	}
	b := pairOf(t, p)
	b.refused(t, create(strings.Repeat("y", 24)), api.ErrMany)
	b.refused(t, create(p.names()[7]), api.ErrExists)
	b.refused(t, create("N"), api.ErrName)
	b.row(t, remove(p.names()[63]), create(strings.Repeat("y", 24)))
}

func TestSeal(t *testing.T) {
	b := newPair(t, 128, 64)
	b.refused(t, seal("a"), api.ErrNone)
	b.row(t, create("a"), create("b"), add("a", bytes("a", 300)))
	b.refused(t, seal("c"), api.ErrNone)
	b.refused(t, seal(""), api.ErrNone)
	b.refused(t, seal("A"), api.ErrNone)
	b.row(t, seal("a"), seal("a"), seal("b"))
	b.again(t, 64)
	b.refused(t, add("a", "x"), api.ErrSealed)
	b.refused(t, add("b", ""), api.ErrSealed)
	b.row(t, seal("a"), readAt("a", 290, 100), remove("a"), create("a"), add("a", "x")) // a new one is not sealed
}

func TestDelete(t *testing.T) {
	b := newPair(t, 128, 64)
	b.refused(t, remove("a"), api.ErrNone)
	b.row(t, create("a"), create("b"), create("c"), add("a", bytes("a", 300)), add("b", bytes("b", 600)), add("a", bytes("a+", 300)), seal("b"))
	for _, s := range []string{"", "A", "d", "aa", "0"} {
		b.refused(t, remove(s), api.ErrNone)
	}
	b.row(t, remove("c"), remove("b"))
	b.refused(t, remove("b"), api.ErrNone)
	b.row(t, remove("a"))
	b.again(t, 64)
	if b.f.Free() != 52 || len(b.f.List()) != 0 {
		t.Errorf("Free %d", b.f.Free())
	}
}

// The power

// calls are some of each kind, OK and not, of the files a, b (sealed) and c.
func calls() []call {
	return []call{
		create("d"), create("a"), create("No"), create(""),
		add("a", "x"), add("a", ""), add("b", "x"), add("none", "x"), add("a", bytes("", 6001)), add("", bytes("", 6001)), add("a", bytes("", 6000)),
		readAt("a", 0, 5), readAt("a", -1, 5), readAt("none", 0, 5), readAt("a", 0, -1), readAt("c", 0, 0),
		seal("a"), seal("b"), seal("none"),
		rename("a", "b"), rename("a", "a"), rename("a", "No"), rename("none", "No"), rename("none", "a"), rename("a", "z"),
		remove("a"), remove("b"), remove("none"),
	}
}

func some(t *testing.T) *pair {
	t.Helper()
	b := newPair(t, 128, 64)
	b.row(t, create("a"), create("b"), create("c"), add("a", bytes("a", 300)), add("b", bytes("b", 600)), seal("b"), add("a", bytes("a+", 300)))
	return b
}

func TestWithoutPower(t *testing.T) {
	b := some(t)
	kill(t, b.d)
	kill(t, b.twin)
	for _, x := range calls() {
		if s, e := x.of(b.f); s != "" || e != api.ErrDead {
			t.Errorf("%v: %q, %v", x, s, e)
		}
		b.f.List()
		b.f.Free()
		b.f.Used()
		if !b.f.Whole() {
			t.Errorf("behind %v: Whole is false", x)
		}
	}
	wantDevice(t, "without power", b.d, b.twin)
	b.crash(nil, -1, 0)
	wantFiles(t, "the power is back", b.f, b.p)
	b.again(t, 64)
	for _, x := range calls() {
		if e, fault := b.do(x); fault != "" {
			t.Errorf("%v: %v. %s", x, e, fault)
		}
		b.like(t, fmt.Sprint(x))
	}
}

// What needs no write is answered while the fuse burns at its end.
func TestCallsWithoutWrites(t *testing.T) {
	for _, x := range calls() {
		b := some(t)
		b.d.Fuse(0)
		next := b.p.copied()
		text, e := x.of(next)
		if e != api.OK || len(next.writes(b.p)) == 0 {
			if s, got := x.of(b.f); s != text || got != e || b.d.Dead() {
				t.Errorf("%v: %q, %v; want %q, %v. The power is gone: %v", x, s, got, text, e, b.d.Dead())
			}
			b.d.Fuse(-1)
			b.like(t, fmt.Sprint(x))
		} else if s, got := x.of(b.f); s != "" || got != api.ErrDead {
			t.Errorf("%v: %q, %v; want ErrDead", x, s, got)
		}
	}
}

// A3

func TestAppendSizes(t *testing.T) {
	sizes := []int{0, 1, 2, 254, 255, 256, 257, 511, 512, 513, 5887, 5888, 5889, 5999, 6000}
	for _, was := range []int{0, 1, 255, 256, 257, 300, 511, 512, 6000} {
		for _, n := range sizes {
			b := newPair(t, 200, 64)
			b.row(t, create("a"), create("b"), add("a", bytes("was", was)), add("b", "between"), add("a", bytes("data", n)))
			b.again(t, 64)
		}
	}
}

func TestAppendErrors(t *testing.T) {
	b := newPair(t, 128, 64)
	b.row(t, create("a"), create("b"), add("a", bytes("a", 300)), seal("b"))
	for _, n := range []int{6001, 6002, 6144, 6145, 100000, 1 << 21} {
		b.refused(t, add("a", bytes("x", n)), api.ErrLong)
		b.refused(t, add("b", bytes("x", n)), api.ErrSealed)
		b.refused(t, add("none", bytes("x", n)), api.ErrNone)
	}
	for _, s := range []string{"", "x", bytes("x", 6000)} {
		b.refused(t, add("none", s), api.ErrNone)
		b.refused(t, add("", s), api.ErrNone)
		b.refused(t, add("A", s), api.ErrNone)
		b.refused(t, add("b", s), api.ErrSealed)
	}
	b.row(t, add("a", bytes("x", 6000)), add("a", ""))
}

// A last block takes what it can.
func TestAppendToLastBlock(t *testing.T) {
	for _, was := range []int{0, 1, 128, 254, 255, 256} {
		for _, n := range []int{1, 2, 255, 256, 257, 258} {
			b := newPair(t, 128, 64)
			b.row(t, create("a"), add("a", bytes("was", was)))
			free := b.f.Free()
			b.row(t, add("a", bytes("more", n)))
			if took, want := free-b.f.Free(), (was+n+255)/256-(was+255)/256; took != want {
				t.Errorf("%d bytes behind %d: %d blocks; want %d", n, was, took, want)
			}
		}
	}
	b := newPair(t, 128, 64)
	b.row(t, create("a"))
	for i := range 600 {
		b.errs(t, add("a", string(rune('a'+i%26))), api.OK)
	}
	b.like(t, "600 single bytes")
}

// Behind the last byte noughts are written, whatever lay there.
func TestAppendNoughts(t *testing.T) {
	d := filled(t, 128)
	wantErrno(t, "Format", afile.Format(d), api.OK)
	f := open(t, d, 64)
	wantErrno(t, "Create", f.Create("a"), api.OK)
	for _, size := range []int{1, 10, 256, 300, 512, 513} {
		have, _ := f.ReadAt("a", 0, 1000)
		wantErrno(t, "Append", f.Append("a", bytes("a", size)[len(have):]), api.OK)
		d.Flush()
		disk, want := d.Disk(), bytes("a", size)+nought
		for k := range (size + 255) / 256 {
			if disk[76+k] != want[256*k:256*k+256] && size%256 > 0 {
				t.Errorf("of %d bytes block %d is %q", size, k, disk[76+k])
			}
		}
	}
	p := plainOf(128)
	p.lay("a", 10, 90)
	dirty := laid(t, p.used, dirOf(p.list()), map[int]string{90: bytes("a", 10) + strings.Repeat("#", 246)})
	f = open(t, dirty, 64)
	wantErrno(t, "Append", f.Append("a", "+"), api.OK)
	dirty.Flush()
	if s := dirty.Disk()[90]; s != bytes("a", 10)+"+"+nought[11:] {
		t.Errorf("the last block is %q", s)
	}
}

// allBut is an empty file a, and files that have all blocks but some.
func allBut(n int, free ...int) *plain {
	p := plainOf(n)
	i := 0
	var blocks []int
	for b := p.behind(); b <= n; b++ {
		if b == n || slices.Contains(free, b) {
			if len(blocks) > 0 {
				p.lay(fmt.Sprintf("full%02d", i), 256*len(blocks), blocks...)
			}
			blocks, i = nil, i+1
		} else {
			blocks = append(blocks, b)
		}
	}
	p.lay("a", 0)
	return p
}

func wantExtents(t *testing.T, b *pair, name string, want ...api.Extent) {
	t.Helper()
	l := b.f.List()
	i := slices.IndexFunc(l, func(f inode.File) bool { return f.Name == name })
	if i < 0 || !slices.Equal(l[i].Extents, want) {
		t.Fatalf("%s of %v; want the extents %v", name, l, want)
	}
}

func TestAppendRoom(t *testing.T) {
	for _, free := range [][]int{{}, span(100, 1), span(126, 2), span(76, 10), {77, 79, 81}, {80, 81, 90, 91, 92, 127}, span(90, 23), append(span(76, 5), span(120, 8)...)} {
		b := pairOf(t, allBut(128, free...))
		n := len(free)
		b.refused(t, add("a", bytes("over", 256*n+1)), api.ErrFull)
		b.refused(t, add("a", bytes("over", 6000)), api.ErrFull)
		if n > 0 {
			c := b.copied(t, 64)
			c.row(t, add("a", bytes("less", 256*n-255)))
			b.row(t, add("a", bytes("all", 256*n)))
		}
		if b.f.Free() != 0 || b.f.Used() != 64 {
			t.Fatalf("Free %d, Used %d", b.f.Free(), b.f.Used())
		}
		b.refused(t, add("a", "x"), api.ErrFull)
		b.row(t, add("a", ""))
		b.row(t, create("empty"), seal("empty"))
		b.refused(t, add(b.p.names()[2], "x"), api.ErrFull) // a full one
		b.again(t, 64)
	}
}

// With a last block that has room less is needed.
func TestAppendRoomInLastBlock(t *testing.T) {
	p := allBut(128, 90, 91)
	p.lay("a", 100, 90)
	b := pairOf(t, p)
	b.refused(t, add("a", bytes("over", 156+256+1)), api.ErrFull)
	b.row(t, add("a", bytes("all", 156+256)))
	b.refused(t, add("a", "x"), api.ErrFull)
	p = allBut(128, 90)
	p.lay("a", 255, 90)
	b = pairOf(t, p)
	b.refused(t, add("a", "xy"), api.ErrFull)
	b.row(t, add("a", "x"))
	b.refused(t, add("a", "x"), api.ErrFull)
}

func x(start, count int) api.Extent { return api.Extent{Start: start, Count: count} }

func TestAppendPieces(t *testing.T) {
	for _, c := range []struct {
		what string
		free []int
		n    int
		want []api.Extent
	}{
		{"the first piece that is large enough", []int{80, 90, 91, 92, 100, 101, 102, 103}, 3, []api.Extent{x(90, 3)}},
		{"not one that is just as large", []int{80, 81, 82, 83, 84, 90, 91, 92}, 3, []api.Extent{x(80, 3)}},
		{"the greatest first", []int{80, 90, 91, 92, 100, 101, 110, 111, 112, 113}, 5, []api.Extent{x(110, 4), x(80, 1)}},
		{"then the rest, where it fits first", []int{80, 90, 91, 92, 100, 101, 110, 111, 112, 113}, 6, []api.Extent{x(110, 4), x(90, 2)}},
		{"then the greatest that is left", []int{80, 90, 91, 92, 100, 101, 110, 111, 112, 113}, 8, []api.Extent{x(110, 4), x(90, 3), x(80, 1)}},
		{"all of them", []int{80, 90, 91, 92, 100, 101, 110, 111, 112, 113}, 10, []api.Extent{x(110, 4), x(90, 3), x(100, 2), x(80, 1)}},
		{"the first of two of the same length", []int{80, 90, 91, 100, 101, 110, 111}, 3, []api.Extent{x(90, 2), x(80, 1)}},
		{"and the next of them", []int{80, 90, 91, 100, 101, 110, 111}, 4, []api.Extent{x(90, 2), x(100, 2)}},
		{"and all", []int{80, 90, 91, 100, 101, 110, 111}, 7, []api.Extent{x(90, 2), x(100, 2), x(110, 2), x(80, 1)}},
		{"the first data block", []int{76, 90, 91}, 3, []api.Extent{x(90, 2), x(76, 1)}},
		{"the last one", []int{76, 127}, 2, []api.Extent{x(76, 1), x(127, 1)}},
		{"at the end", []int{80, 125, 126, 127}, 4, []api.Extent{x(125, 3), x(80, 1)}},
	} {
		b := pairOf(t, allBut(128, c.free...))
		b.row(t, add("a", bytes(c.what, 256*c.n)))
		wantExtents(t, b, "a", c.want...)
		b.again(t, 64)
		b = pairOf(t, allBut(128, c.free...))
		b.row(t, add("a", bytes(c.what, 256*c.n-255)))
		wantExtents(t, b, "a", c.want...)
	}
}

// A piece right behind the last extent makes that one longer; others do not.
func TestAppendBehindLastExtent(t *testing.T) {
	for _, c := range []struct {
		what string
		lies []int
		free []int
		n    int
		want []api.Extent
	}{
		{"behind the last", []int{90}, []int{91, 92}, 2, []api.Extent{x(90, 3)}},
		{"one between", []int{90}, []int{92, 93}, 2, []api.Extent{x(90, 1), x(92, 2)}},
		{"ahead of it", []int{90}, []int{89}, 1, []api.Extent{x(90, 1), x(89, 1)}},
		{"behind the first extent, not the last", []int{90, 100}, []int{91}, 1, []api.Extent{x(90, 1), x(100, 1), x(91, 1)}},
		{"behind the last of two", []int{90, 100}, []int{101}, 1, []api.Extent{x(90, 1), x(100, 2)}},
		{"one fits first elsewhere", []int{90}, []int{80, 91}, 1, []api.Extent{x(90, 1), x(80, 1)}},
		{"the greatest is behind it", []int{90}, []int{80, 91, 92}, 3, []api.Extent{x(90, 3), x(80, 1)}},
		{"the second piece is behind the first", []int{100}, []int{80, 81, 101}, 3, []api.Extent{x(100, 1), x(80, 2), x(101, 1)}},
		{"both: behind the last, then behind that", []int{100}, []int{101, 102, 103}, 3, []api.Extent{x(100, 4)}},
	} {
		p := allBut(128, append(slices.Clone(c.lies), c.free...)...)
		p.lay("a", 256*len(c.lies), c.lies...)
		b := pairOf(t, p)
		b.row(t, add("a", bytes(c.what, 256*c.n)))
		wantExtents(t, b, "a", c.want...)
		b.row(t, readAt("a", 0, 6000))
		b.again(t, 64)
	}
}

// gaps is single blocks that touch no others.
func gaps(from, n int) []int {
	var l []int
	for i := range n {
		l = append(l, from+2*i)
	}
	return l
}

func TestAppendExtents(t *testing.T) {
	for has := 12; has < 17; has++ {
		lies := gaps(78, has)
		p := allBut(200, append(slices.Clone(lies), gaps(130, 30)...)...) // what is free are single blocks, none behind the last extent
		p.lay("a", 256*has, lies...)
		p.lay("c", 0)
		b := pairOf(t, p)
		b.refused(t, add("a", bytes("17 extents", 256*(17-has))), api.ErrFull)
		b.refused(t, add("a", bytes("18 extents", 256*(18-has))), api.ErrFull)
		if has < 16 {
			b.row(t, add("a", bytes("16 extents", 256*(16-has)-100)), add("a", bytes("what is left", 100)))
		}
		b.refused(t, add("a", "x"), api.ErrFull)
		b.refused(t, add("c", bytes("17 extents", 4097)), api.ErrFull)
		b.row(t, add("c", bytes("16 extents", 4096)))
		b.refused(t, add("c", "x"), api.ErrFull)
		for _, name := range []string{"a", "c"} {
			wantExtents(t, b, name, extentsOf(b.p.files[name].blocks)...)
			if len(b.p.list()[0].Extents) != 16 {
				t.Fatalf("the test held too little: %v", b.p.list())
			}
		}
		b.again(t, 64)
	}
}

// With 16 extents, a piece behind the last one is no 17th.
func TestAppendToLastOf16(t *testing.T) {
	p := plainOf(128)
	p.lay("a", 256*16, gaps(78, 16)...) // the last is 108
	p.lay("b", 256*31, append(gaps(77, 15), span(109, 16)...)...)
	b := pairOf(t, p)
	b.refused(t, add("a", "x"), api.ErrFull) // 76 is free
	b.row(t, create("c"), add("c", "x"))     // now it is not
	b.refused(t, add("a", "x"), api.ErrFull) // 107 is free
	b.row(t, add("c", bytes("", 256)))       // now it is not
	b.refused(t, add("a", "x"), api.ErrFull) // 125 to 127 are
	p = plainOf(128)
	p.lay("a", 256*16, gaps(78, 16)...)
	p.lay("b", 256*15, gaps(77, 15)...)
	p.lay("c", 512, 76, 107)
	b = pairOf(t, p)
	b.row(t, add("a", bytes("", 257)), add("a", bytes("", 256*18-1)))
	wantExtents(t, b, "a", append(extentsOf(gaps(78, 15)), x(108, 20))...)
	b.refused(t, add("a", "x"), api.ErrFull)
}

// The directory may be too long for one more extent, or for a greater Size.
func TestAppendLong(t *testing.T) {
	ended := map[api.Errno]int{}
	for left := range 8 {
		b := pairOf(t, long(t, 3072-left))
		name := firstEmpty(b.p)
		for _, n := range []int{1, 127, 128, 256, 257, 6000} {
			c := b.copied(t, 64)
			next := c.p.copied()
			want := next.Append(name, bytes("a", n))
			if tooLong := next.length() > 3072; tooLong != (want == api.ErrFull) {
				t.Fatalf("%d bytes, %v", next.length(), want)
			}
			c.errs(t, add(name, bytes("a", n)), want)
			c.like(t, fmt.Sprint(n, " bytes, ", left, " left"))
			ended[want]++
		}
		b.refused(t, add("file00", "x"), api.ErrFull) // a 17th extent
	}
	if ended[api.OK] < 20 || ended[api.ErrFull] < 10 {
		t.Errorf("%v: the test held too little", ended)
	}
}

// firstEmpty is the first name of a file without bytes.
func firstEmpty(p *plain) string {
	for _, name := range p.names() {
		if p.files[name].data == "" {
			return name
		}
	}
	return ""
}

// A4

func TestReadAt(t *testing.T) {
	p := plainOf(200)
	p.lay("a", 256*7+100, 90, 91, 80, 100, 101, 102, 77, 76)
	p.lay("b", 512, 120, 119)
	p.lay("c", 0)
	p.lay("d", 1, 199)
	b := pairOf(t, p)
	for name, f := range p.files {
		size := len(f.data)
		for _, at := range []int{0, 1, 100, 254, 255, 256, 257, 511, 512, 513, 768, 1535, 1536, 1791, 1792, size - 1, size, size + 1, size + 2, size + 256, -1, -2, -256, math.MinInt, math.MaxInt} {
			for _, n := range []int{0, 1, 2, 255, 256, 257, 512, 1000, size - at - 1, size - at, size - at + 1, size, size + 1, 6000, 1 << 21, math.MaxInt, -1, -2, math.MinInt} {
				if e, fault := b.do(readAt(name, at, n)); fault != "" {
					t.Fatalf("%v. %s", e, fault)
				}
			}
		}
	}
	for _, name := range []string{"", "A", "e", "aa"} {
		for _, at := range []int{0, 1, -1} {
			b.errs(t, readAt(name, at, -at), api.ErrNone)
		}
	}
	b.like(t, "what was read")
	b.row(t, seal("a"), readAt("a", 250, 100))
}

// A5

func TestRename(t *testing.T) {
	b := newPair(t, 128, 64)
	b.refused(t, rename("a", "b"), api.ErrNone)
	b.refused(t, rename("a", "a"), api.ErrNone)
	b.refused(t, rename("", ""), api.ErrNone)
	b.row(t, create("a"), create("b"), create("c"), add("a", bytes("a", 300)), add("b", bytes("b", 600)), add("a", bytes("a+", 500)), seal("b"))
	for _, s := range noNames() {
		b.errs(t, rename("a", s), api.ErrName)
		b.errs(t, rename("none", s), api.ErrNone)
	}
	b.like(t, "behind no names")
	b.refused(t, rename("none", "a"), api.ErrNone)
	b.refused(t, rename("none", "none"), api.ErrNone)
	b.row(t, rename("a", "a"), rename("b", "b"), rename("a", "z"), rename("b", "0"), rename("0", strings.Repeat("x", 24)), rename(strings.Repeat("x", 24), "b"))
	b.refused(t, rename("a", "q"), api.ErrNone)
	b.again(t, 64)
	b.refused(t, add("b", "x"), api.ErrSealed) // still sealed
	b.row(t, rename("b", "z"))                 // in another's place, whose blocks are free
	b.refused(t, add("z", "x"), api.ErrSealed)
	b.row(t, rename("c", "z"), add("z", "not sealed"))
	b.row(t, create("q"), rename("z", "q"), rename("q", "a"))
	b.again(t, 1024)
}

func TestRenameLong(t *testing.T) {
	for left := range 6 {
		p := long(t, 3072-left)
		b := pairOf(t, p)
		for _, name := range []string{"file00", "file30"} {
			fits := name + strings.Repeat("x", left)
			c := b.copied(t, 64)
			c.refused(t, rename(name, fits+"x"), api.ErrFull)
			c.refused(t, rename(name, fits+"X"), api.ErrName)
			c.refused(t, rename("none", fits+"x"), api.ErrNone)
			c.row(t, rename(name, name), rename(name, fits))
			if left > 0 {
				c.refused(t, create("abcdefgh"), api.ErrFull)
			}
			c.again(t, 64)
		}
		b.row(t, rename("file00", "file01")) // one file less: shorter
		b.again(t, 64)
	}
	// A longer name in the place of a file of that name needs less, however full the directory is.
	p := long(t, 3072-28)
	p.lay(strings.Repeat("z", 24), 0)
	b := pairOf(t, p)
	if p.length() != 3072 {
		t.Fatalf("%d bytes", p.length())
	}
	b.refused(t, rename("file00", strings.Repeat("y", 24)), api.ErrFull)
	b.row(t, rename("file00", strings.Repeat("z", 24)))
}

// A6

func TestListSharesNothing(t *testing.T) {
	b := some(t)
	for range 3 {
		l := b.f.List()
		other := b.f.List()
		for i := range l {
			l[i].Name, l[i].Sealed, l[i].Size = "x", !l[i].Sealed, 77
			for k := range l[i].Extents {
				l[i].Extents[k] = x(1, 1)
			}
			_ = append(l[i].Extents, x(2, 2))
		}
		_ = append(l[:1], inode.File{Name: "y"})
		if !sameFiles(other, b.p.list()) {
			t.Fatalf("another list: %v", other)
		}
		b.like(t, "a list was written into")
		b.row(t, add("a", bytes("more", 700)))
		if len(other) != 3 || other[0].Size == b.f.List()[0].Size {
			t.Fatal("an old list is another one now")
		}
	}
}

func TestWholeBehindAllCalls(t *testing.T) {
	b := newPair(t, 300, 64)
	b.row(t, create("a"), create("b"), add("b", bytes("b", 600)), seal("b"))
	for _, c := range calls() {
		if e, fault := b.do(c); fault != "" {
			t.Fatalf("%v: %v. %s", c, e, fault)
		}
		b.like(t, fmt.Sprint(c))
		if b.f.Free()+b.f.Used() != 300-64 {
			t.Fatalf("Free %d, Used %d", b.f.Free(), b.f.Used())
		}
	}
	b.row(t, create("b"), add("b", bytes("b", 300)), create("c"))
	for _, c := range calls() {
		if e, fault := b.do(c); fault != "" {
			t.Fatalf("%v: %v. %s", c, e, fault)
		}
		b.again(t, 64)
	}
}

// Two stores with files do not know of one another.
func TestTwoDevices(t *testing.T) {
	a, b := newPair(t, 128, 64), newPair(t, 200, 64)
	a.row(t, create("a"), add("a", bytes("a", 300)))
	b.row(t, create("a"), create("b"), add("a", bytes("b", 100)))
	a.row(t, remove("a"))
	b.like(t, "the other one")
}

// A file may have all blocks of the greatest device; its calls' directories, two blocks of the bitmap and 25 blocks of data are one transaction.
func TestGreatFile(t *testing.T) {
	b := newPair(t, 4096, 1024)
	b.row(t, create("a"), add("a", bytes("odd", 255)))
	total := 255
	for e := api.OK; e == api.OK; {
		n := min(6000, (4096-65-12)*256-total)
		if n == 0 {
			break
		}
		e, _ = b.do(add("a", bytes(fmt.Sprint(total), n)))
		total += n
	}
	b.like(t, "a great file")
	if b.f.Free() != 0 || total != (4096-65-12)*256 {
		t.Fatalf("Free %d, %d bytes", b.f.Free(), total)
	}
	b.refused(t, add("a", "x"), api.ErrFull)
	b.row(t, readAt("a", 0, math.MaxInt), readAt("a", total-5, 100), rename("a", "b"))
	b.again(t, 64)
	b.row(t, create("c"), rename("c", "b"))
	b.again(t, 64)
}
