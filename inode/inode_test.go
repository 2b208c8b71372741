package inode_test

import (
	"encoding/binary"
	"fmt"
	"math"
	"reflect"
	"slices"
	"strings"
	"testing"

	"codex/api"
	"codex/inode"
)

// file is a file in extents of the starts and counts that are handed in, one after the other.
func file(name string, size int, l ...int) inode.File {
	f := inode.File{Name: name, Size: size}
	for i := 0; i < len(l); i += 2 {
		f.Extents = append(f.Extents, api.Extent{Start: l[i], Count: l[i+1]})
	}
	return f
}

func list(l ...inode.File) []inode.File { return l }

// empties are n files without blocks, their names rising.
func empties(n int) []inode.File {
	l := make([]inode.File, n)
	for i := range l {
		l[i].Name = fmt.Sprintf("f%06d", i)
	}
	return l
}

// scattered is a file of n extents of one block each, none beside another.
func scattered(name string, start, n int) inode.File {
	f := inode.File{Name: name, Size: 256 * n}
	for i := range n {
		f.Extents = append(f.Extents, api.Extent{Start: start + 2*i, Count: 1})
	}
	return f
}

func wantRight(t *testing.T, what string, l []inode.File, first, blocks int, want bool) {
	t.Helper()
	if modelRight(l, first, blocks) != want {
		t.Errorf("%s: the model is not of that mind", what)
	}
	if inode.Right(l, first, blocks) != want {
		t.Errorf("Right, %s, %d, %d: %v", what, first, blocks, !want)
	}
}

func wantFind(t *testing.T, l []inode.File, name string, i int, ok bool) {
	t.Helper()
	if x, y := inode.Find(l, name); x != i || y != ok {
		t.Errorf("Find among %d files, %q: %d, %v; want %d, %v", len(l), name, x, y, i, ok)
	}
}

func wantPack(t *testing.T, what string, l []inode.File) string {
	t.Helper()
	s, e := inode.Pack(l)
	if e != api.OK || s != formed(l) || len(s) != 3072 {
		t.Fatalf("Pack, %s: %q, %v; want %q", what, s, e, formed(l))
	}
	return s
}

func wantNoPack(t *testing.T, what string, l []inode.File, want api.Errno) {
	t.Helper()
	if s, e := inode.Pack(l); s != "" || e != want {
		t.Errorf("Pack, %s: %d bytes, %v; want none, %v", what, len(s), e, want)
	}
}

func wantUnpack(t *testing.T, what, s string, want []inode.File) {
	t.Helper()
	if l, e := inode.Unpack(s); !same(l, want) || e != api.OK {
		t.Errorf("Unpack, %s: %v, %v; want %v, OK", what, l, e, want)
	}
}

func wantNoUnpack(t *testing.T, what, s string, want api.Errno) {
	t.Helper()
	if l, e := inode.Unpack(s); len(l) != 0 || e != want {
		t.Errorf("Unpack, %s: %d files, %v; want none, %v", what, len(l), e, want)
	}
}

// N1: Name

func inName(c int) bool {
	return strings.ContainsRune("abcdefghijklmnopqrstuvwxyz0123456789.-_", rune(c))
}

func TestNameOfEachByte(t *testing.T) {
	for c := range 256 {
		if s := string([]byte{byte(c)}); inode.Name(s) != inName(c) {
			t.Errorf("Name(%q): %v", s, !inName(c))
		}
	}
}

func TestNameWithOneByteAtAnyPlace(t *testing.T) {
	for _, n := range []int{2, 3, 23, 24} {
		for at := range n {
			for c := range 256 {
				b := []byte(strings.Repeat("m", n))
				b[at] = byte(c)
				if inode.Name(string(b)) != inName(c) {
					t.Errorf("Name(%q): %v", b, !inName(c))
				}
			}
		}
	}
}

func TestNameOfLengths(t *testing.T) {
	for n := range 60 {
		if s := strings.Repeat("a", n); inode.Name(s) != (n >= 1 && n <= 24) {
			t.Errorf("Name of %d bytes: %v", n, n < 1 || n > 24)
		}
	}
	for _, n := range []int{256 + 1, 1 << 16, 1<<20 + 5} {
		if inode.Name(strings.Repeat("a", n)) {
			t.Errorf("Name of %d bytes: true", n)
		}
	}
}

func TestNamesOfTheDocument(t *testing.T) {
	for s, want := range map[string]bool{"a.1-_": true, "A": false, "": false, ".": true, "..": true, "-": true, "é": false, "a\x00": false, "a/b": false, "ſ": false, "a ": false} {
		if inode.Name(s) != want {
			t.Errorf("Name(%q): %v", s, !want)
		}
	}
}

// N1: Right

func TestRightOfTheDocument(t *testing.T) {
	l := list(file("a", 300, 64, 2))
	wantRight(t, "300 bytes", l, 64, 128, true)
	wantRight(t, "300 bytes", l, 65, 128, false)
	wantRight(t, "513 bytes", list(file("a", 513, 64, 2)), 64, 128, false)
}

func TestRightOfHowManyFiles(t *testing.T) {
	for n, want := range map[int]bool{0: true, 1: true, 2: true, 63: true, 64: true, 65: false, 66: false, 1000: false, 1 << 18: false} {
		wantRight(t, fmt.Sprintf("%d files", n), empties(n), 64, 128, want)
	}
	wantRight(t, "an empty list", []inode.File{}, 64, 128, true)
	full := empties(64)
	for i := range full {
		full[i].Size, full[i].Extents = 256, []api.Extent{{Start: 127 - i, Count: 1}}
	}
	wantRight(t, "64 files that have all blocks", full, 64, 128, true)
	wantRight(t, "64 files that have all blocks, and one ahead", full, 65, 128, false)
	wantRight(t, "64 files that have all blocks, and one behind", full, 64, 127, false)
}

func TestRightOfNames(t *testing.T) {
	long := strings.Repeat("a", 24)
	for i, c := range []struct {
		names []string
		want  bool
	}{
		{[]string{""}, false}, {[]string{"", "a"}, false}, {[]string{"A"}, false}, {[]string{"A", "a"}, false},
		{[]string{"a", "b\x00"}, false}, {[]string{"a", "é"}, false}, {[]string{"a", "b", "~"}, false},
		{[]string{long}, true}, {[]string{long + "a"}, false}, {[]string{long[1:], long}, true}, {[]string{long, long[1:]}, false},
		{[]string{"a", "a"}, false}, {[]string{"a", "b", "b"}, false}, {[]string{"a", "b", "a"}, false}, {[]string{"b", "a"}, false},
		{[]string{"a", "c", "b"}, false}, {[]string{"a", "b", "c"}, true}, {[]string{"b", "a", "c"}, false},
		{[]string{"a", "ab"}, true}, {[]string{"ab", "a"}, false}, {[]string{"a", "a-", "a.", "a0", "a_", "aa"}, true},
		{[]string{"-", ".", "0", "9", "_", "a", "z"}, true}, {[]string{"_", "9"}, false}, {[]string{"a", "_"}, false}, {[]string{"a10", "a9"}, true}, {[]string{"a9", "a10"}, false},
	} {
		var l []inode.File
		for _, name := range c.names {
			l = append(l, inode.File{Name: name})
		}
		wantRight(t, fmt.Sprintf("names %d", i), l, 64, 128, c.want)
	}
}

func TestRightOfSizes(t *testing.T) {
	for size, blocks := range map[int]int{0: 0, 1: 1, 255: 1, 256: 1, 257: 2, 511: 2, 512: 2, 513: 3, 16128: 63, 16129: 64, 16384: 64} {
		for n := range 65 {
			f := file("a", size, 64, n)
			if n == 0 {
				f.Extents = nil
			}
			wantRight(t, fmt.Sprintf("%d bytes in %d blocks", size, n), list(f), 64, 128, n == blocks)
		}
	}
	wantRight(t, "a block more than there are", list(file("a", 16385, 64, 65)), 64, 128, false)
	for _, size := range []int{-1, -255, -256, -257, math.MinInt, math.MaxInt} {
		for _, n := range []int{-1, 1, 64} {
			wantRight(t, fmt.Sprintf("%d bytes", size), list(file("a", size, 64, n)), 64, 128, false)
		}
		wantRight(t, fmt.Sprintf("%d bytes in no blocks", size), list(file("a", size)), 64, 128, false)
	}
}

func TestRightOfSizesInSeveralExtents(t *testing.T) {
	for _, c := range []struct {
		l    []int
		want bool
	}{
		{[]int{64, 1, 66, 2}, true}, {[]int{66, 2, 64, 1}, true}, {[]int{64, 1, 66, 1}, false}, {[]int{64, 1, 66, 3}, false},
		{[]int{64, 1, 66, 1, 68, 1}, true}, {[]int{64, 3}, true}, {[]int{64, 3, 70, 1}, false}, {[]int{64, 4, 70, -1}, false}, {[]int{70, -1, 64, 4}, false},
		{[]int{64, 3, 70, 0}, false}, {[]int{70, 0, 64, 3}, false}, {[]int{64, 2, 70, 0, 72, 1}, false},
	} {
		f := file("b", 600, c.l...)
		wantRight(t, fmt.Sprint("600 bytes in ", c.l), list(f), 64, 128, c.want)
		wantRight(t, fmt.Sprint("600 bytes in ", c.l, " behind another"), list(file("a", 1, 100, 1), f), 64, 128, c.want)
	}
	// A sum of counts that comes round to the blocks that are needed.
	half := 1 << 62
	wantRight(t, "counts that are too great together", list(file("a", 256, 0, half, half, half, 64, half, 65, half, 66, 1)), 0, math.MaxInt, false)
	wantRight(t, "one count of 2^63 - 1 and two more", list(file("a", 256, 0, math.MaxInt, 64, math.MaxInt, 65, 3)), 0, math.MaxInt, false)
}

func TestRightOfExtentsOfNothing(t *testing.T) {
	for _, count := range []int{0, -1, -2, math.MinInt, math.MinInt + 1} {
		for _, size := range []int{0, 1, 256} {
			what := fmt.Sprintf("%d bytes in an extent of %d", size, count)
			wantRight(t, what, list(file("a", size, 64, count)), 64, 128, false)
			wantRight(t, what+", and another", list(file("a", size, 64, 1, 66, count)), 64, 128, false)
		}
	}
}

func TestRightOfHowManyExtents(t *testing.T) {
	for n, want := range map[int]bool{0: true, 1: true, 15: true, 16: true, 17: false, 18: false, 32: false} {
		what := fmt.Sprintf("%d extents", n)
		wantRight(t, what, list(scattered("a", 64, n)), 64, 128, want)
		wantRight(t, what+" of the second", list(file("a", 1, 65, 1), scattered("b", 64, n)), 64, 128, want)
		f := inode.File{Name: "a", Size: 256 * n}
		for i := range n {
			f.Extents = append(f.Extents, api.Extent{Start: 127 - i, Count: 1})
		}
		wantRight(t, what+" beside one another", list(f), 64, 128, want)
	}
	wantRight(t, "very many extents", list(scattered("a", 0, 1<<16)), 0, math.MaxInt, false)
}

func TestRightOfExtentsThatTouch(t *testing.T) {
	pairs := []struct {
		l    [4]int
		want bool
	}{
		{[4]int{70, 2, 72, 2}, true}, {[4]int{70, 2, 71, 2}, false}, {[4]int{70, 2, 73, 2}, true}, {[4]int{70, 2, 70, 2}, false}, {[4]int{70, 1, 70, 3}, false},
		{[4]int{70, 3, 71, 1}, false}, {[4]int{70, 3, 72, 1}, false}, {[4]int{70, 3, 73, 1}, true}, {[4]int{70, 3, 69, 1}, true}, {[4]int{70, 3, 69, 2}, false},
		{[4]int{64, 1, 127, 1}, true}, {[4]int{64, 64, 127, 1}, false}, {[4]int{64, 64, 64, 1}, false}, {[4]int{64, 63, 127, 1}, true}, {[4]int{65, 63, 64, 1}, true},
	}
	for _, c := range pairs {
		a, b := c.l[:2], c.l[2:]
		for range 2 {
			what := fmt.Sprint(a, " and ", b)
			wantRight(t, what+" of one file", list(file("a", 256*(a[1]+b[1]), a[0], a[1], b[0], b[1])), 64, 128, c.want)
			wantRight(t, what+" of two files", list(file("a", 256*a[1], a...), file("b", 256*b[1], b...)), 64, 128, c.want)
			wantRight(t, what+" of two files, another between", list(file("a", 256*a[1], a...), file("b", 0), file("c", 256*b[1], b...)), 64, 128, c.want)
			a, b = b, a
		}
	}
}

func TestRightOfExtentsAtTheEdges(t *testing.T) {
	for _, c := range []struct {
		start, count int
		want         bool
	}{
		{64, 1, true}, {63, 1, false}, {63, 2, false}, {62, 3, false}, {0, 1, false}, {-1, 1, false}, {-64, 1, false}, {64 - 1<<32, 1, false}, {math.MinInt, 1, false},
		{127, 1, true}, {128, 1, false}, {129, 1, false}, {127, 2, false}, {126, 2, true}, {126, 3, false}, {64, 64, true}, {64, 65, false}, {0, 128, false}, {-1, 200, false},
		{1 << 32, 1, false}, {1<<32 + 64, 1, false}, {math.MaxInt, 1, false}, {math.MaxInt - 1, 2, false},
	} {
		f := file("b", 256*c.count, c.start, c.count)
		what := fmt.Sprintf("%d blocks from %d on", c.count, c.start)
		wantRight(t, what, list(f), 64, 128, c.want)
		wantRight(t, what+", all blocks, behind another file", list(file("a", 0), f), 64, 128, c.want)
		g := f
		g.Size -= 255
		wantRight(t, what+", the last of 1 byte", list(g), 64, 128, c.want)
	}
}

func TestRightOfGreatNumbers(t *testing.T) {
	top := math.MaxInt
	for i, c := range []struct {
		f             inode.File
		first, blocks int
		want          bool
	}{
		{file("a", 5, 64, top), 64, 128, false},
		{file("a", top, 64, top), 64, 128, false},
		{file("a", top, 0, top/256+1), 0, top, true},
		{file("a", top, 0, top/256), 0, top, false},
		{file("a", top, top-top/256-1, top/256+1), 0, top, true},
		{file("a", top, top-top/256, top/256+1), 0, top, false},
		{file("a", 1, top, 1), 0, top, false},
		{file("a", 1, top-1, 1), 0, top, true},
		{file("a", 257, top-1, 2), 0, top, false},
		{file("a", 1, top-1, 1), top - 1, top, true},
		{file("a", 1, top-1, 1), top, top, false},
		{file("a", 1, math.MinInt, 1), math.MinInt, top, true},
		{file("a", top, math.MinInt, top/256+1), math.MinInt, top, true},
		{file("a", 1, math.MinInt, 1), math.MinInt, math.MinInt, false},
		{file("a", 1, math.MinInt, 1), math.MinInt + 1, top, false},
		{file("a", 1, 5, top), math.MinInt, top, false},
		{file("a", 512, top, 1, top-1, 1), 0, top, false},
		{file("a", 512, -3, 1, 3, 1), -3, 4, true},
		{file("a", 512, -3, 2), -3, 0, true},
		{file("a", 512, -3, 2), -3, -1, true},
		{file("a", 512, -3, 2), -3, -2, false},
		{file("a", 1<<31, 0, 1<<23), 0, 1 << 23, true},
		{file("a", 1<<31+1, 0, 1<<23), 0, 1 << 23, false},
	} {
		wantRight(t, fmt.Sprintf("great numbers %d", i), list(c.f), c.first, c.blocks, c.want)
	}
}

func TestRightWithoutDataBlocks(t *testing.T) {
	for _, c := range [][2]int{{128, 64}, {64, 64}, {65, 64}, {1, 0}, {0, 0}, {0, -1}, {-1, -5}, {-1, -1}, {math.MaxInt, 0}, {0, math.MinInt}, {math.MaxInt, math.MinInt}, {math.MaxInt, math.MaxInt}, {math.MinInt, math.MinInt}} {
		first, blocks := c[0], c[1]
		wantRight(t, "nothing", nil, first, blocks, true)
		wantRight(t, "files without blocks", empties(64), first, blocks, true)
		wantRight(t, "too many files", empties(65), first, blocks, false)
		for _, start := range []int{0, 63, 64, 65, 127, first, blocks, blocks - 1, first + 1} {
			wantRight(t, "a file with a block", list(file("a", 1, start, 1)), first, blocks, false)
		}
	}
	wantRight(t, "the one block there is", list(file("a", 1, 64, 1)), 64, 65, true)
	wantRight(t, "the block behind the one there is", list(file("a", 1, 65, 1)), 64, 65, false)
}

// What is wrong is seen wherever it stands.
func TestRightOfEachFile(t *testing.T) {
	good := empties(64)
	for i := range good {
		good[i].Size, good[i].Extents = 257, []api.Extent{{Start: 1000 - 2*i, Count: 1}, {Start: 2000 + 2*i, Count: 1}}
	}
	wantRight(t, "64 good files", good, 64, 4096, true)
	for i := range good {
		for what, spoil := range map[string]func(f *inode.File){
			"name":           func(f *inode.File) { f.Name += "A" },
			"falls":          func(f *inode.File) { f.Name = good[(i+63)%64].Name; good[(i+63)%64].Name = "f0000630" },
			"size":           func(f *inode.File) { f.Size = 513 },
			"size below 0":   func(f *inode.File) { f.Size = -1 },
			"count":          func(f *inode.File) { f.Extents[0].Count = 2 },
			"no count":       func(f *inode.File) { f.Extents[1].Count = 0 },
			"start ahead":    func(f *inode.File) { f.Extents[0].Start = 63 },
			"start behind":   func(f *inode.File) { f.Extents[1].Start = 4096 },
			"shared in file": func(f *inode.File) { f.Extents[1].Start = f.Extents[0].Start },
			"shared":         func(f *inode.File) { f.Extents[0].Start = 2000 + 2*((i+1)%64) },
			"many extents":   func(f *inode.File) { *f = scattered(f.Name, 3000, 17) },
		} {
			was := good
			good = clone(good)
			spoil(&good[i])
			wantRight(t, fmt.Sprintf("%s of file %d", what, i), good, 64, 4096, false)
			good = was
		}
	}
}

// N1: Find

func TestFindInFewFiles(t *testing.T) {
	for _, name := range []string{"", "a", "A", "~", "zzzzzzzzzzzzzzzzzzzzzzzzzzzzzzzz"} {
		wantFind(t, nil, name, 0, false)
		wantFind(t, []inode.File{}, name, 0, false)
	}
	one := list(file("m", 0))
	wantFind(t, one, "m", 0, true)
	wantFind(t, one, "l", 0, false)
	wantFind(t, one, "n", 1, false)
	wantFind(t, one, "", 0, false)
	wantFind(t, one, "M", 0, false)
	wantFind(t, one, "m\x00", 1, false)
	wantFind(t, one, "mm", 1, false)
	wantFind(t, one, "\xff", 1, false)
	two := list(file("b", 0), file("d", 5, 64, 1))
	for name, want := range map[string]int{"a": 0, "b": ^0, "bb": 1, "c": 1, "d": ^1, "d0": 2, "e": 2, "": 0, "B": 0, "\xff": 2, strings.Repeat("c", 100): 1} {
		wantFind(t, two, name, max(want, ^want), want < 0)
	}
}

func TestFindInManyFiles(t *testing.T) {
	for _, n := range []int{3, 4, 5, 7, 8, 63, 64, 65, 1000} {
		l := empties(n)
		wantFind(t, l, "a", 0, false)
		wantFind(t, l, "z", n, false)
		for i, f := range l {
			wantFind(t, l, f.Name, i, true)
			wantFind(t, l, f.Name+"x", i+1, false)
			wantFind(t, l, f.Name+"\x00", i+1, false)
			wantFind(t, l, f.Name[:6]+string(f.Name[6]-1)+"~", i, false)
		}
	}
}

func TestFindInNamesThatBeginWithOthers(t *testing.T) {
	var l []inode.File
	for n := range 24 {
		l = append(l, file(strings.Repeat("a", n+1), 0))
	}
	for i, f := range l {
		wantFind(t, l, f.Name, i, true)
		wantFind(t, l, f.Name+"-", i+1, false)
	}
	wantFind(t, l, strings.Repeat("a", 25), 24, false)
}

// Lists whose names do not rise have no place that is promised, but a call comes back, and tells one of the list.
func TestFindInWhatDoesNotRise(t *testing.T) {
	for _, l := range [][]inode.File{list(file("b", 0), file("a", 0)), make([]inode.File, 100), slices.Repeat(list(file("b", 0), file("a", 0), file("", -1)), 30)} {
		for _, name := range []string{"", "a", "b", "c"} {
			if i, ok := inode.Find(l, name); i < 0 || i > len(l) || ok && l[i].Name != name {
				t.Errorf("Find(%q): %d, %v", name, i, ok)
			}
		}
	}
}

func TestFindChangesNothing(t *testing.T) {
	l := empties(10)
	was := clone(l)
	inode.Find(l[:4:10], "f000007")
	wantFind(t, l[:4], "f000007", 4, false)
	if !reflect.DeepEqual(l, was) {
		t.Error("Find changed its argument")
	}
}

// N2

func TestPackOfTheDocument(t *testing.T) {
	want := closed("CDXI\x00")
	for _, l := range [][]inode.File{nil, {}} {
		if s, e := inode.Pack(l); e != api.OK || s != want {
			t.Errorf("Pack of nothing: %q, %v", s, e)
		}
	}
}

func TestPackBytes(t *testing.T) {
	for head, l := range map[string][]inode.File{
		"CDXI\x01\x01a\x00\x00\x00":                                                                  list(file("a", 0)),
		"CDXI\x01\x01a\x01\x00\x00":                                                                  list(inode.File{Name: "a", Sealed: true}),
		"CDXI\x01\x01a\x00\x01\x01\x00\x01":                                                          list(file("a", 1, 0, 1)),
		"CDXI\x01\x01a\x00\x80\x02\x01\xff\x1f\x01":                                                  list(file("a", 256, 4095, 1)),
		"CDXI\x01\x01a\x00\x80\x80\x40\x01\x00\x80\x20":                                              list(file("a", 1<<20, 0, 4096)),
		"CDXI\x02\x01a\x01\xac\x02\x01\x40\x02\x02bb\x00\xd8\x04\x02\xc8\x01\x01\x42\x02":            list(inode.File{Name: "a", Sealed: true, Size: 300, Extents: []api.Extent{{Start: 64, Count: 2}}}, file("bb", 600, 200, 1, 66, 2)),
		"CDXI\x03\x01-\x00\x00\x00\x01.\x01\x00\x00\x18zzzzzzzzzzzzzzzzzzzzzzzz\x00\x7f\x01\x7f\x01": list(file("-", 0), inode.File{Name: ".", Sealed: true}, file(strings.Repeat("z", 24), 127, 127, 1)),
	} {
		if s := wantPack(t, "bytes", l); s != closed(head) {
			t.Errorf("Pack(%v): %q; want %q", l, s[:len(head)+8], closed(head)[:len(head)+8])
		}
		wantUnpack(t, "bytes", closed(head), l)
	}
}

func TestPackOfHowManyFiles(t *testing.T) {
	for _, n := range []int{0, 1, 2, 63, 64} {
		l := empties(n)
		wantUnpack(t, "n files", wantPack(t, "n files", l), l)
	}
	wantNoPack(t, "65 files", empties(65), api.ErrArg)
}

// wrong are directories that are not right for the blocks 0 to 4095, each by one rule.
func wrong() map[string][]inode.File {
	return map[string][]inode.File{
		"too many files":      empties(65),
		"no name":             list(file("", 0)),
		"a long name":         list(file(strings.Repeat("a", 25), 0)),
		"a wrong name":        list(file("a", 0), file("b/", 0)),
		"the same name":       list(file("a", 0), file("a", 0)),
		"names that fall":     list(file("b", 0), file("a", 0)),
		"a block too few":     list(file("a", 257, 64, 1)),
		"a block too many":    list(file("a", 256, 64, 2)),
		"a block for nothing": list(file("a", 0, 64, 1)),
		"no block":            list(file("a", 1)),
		"a size below 0":      list(file("a", -1)),
		"a great size":        list(file("a", math.MaxInt, 0, 4096)),
		"too many extents":    list(scattered("a", 64, 17)),
		"an extent of none":   list(file("a", 256, 64, 1, 66, 0)),
		"a count below 0":     list(file("a", 256, 64, 2, 66, -1)),
		"a start below 0":     list(file("a", 256, -1, 1)),
		"a start of 4096":     list(file("a", 256, 4096, 1)),
		"an end of 4097":      list(file("a", 512, 4095, 2)),
		"all and one more":    list(file("a", 1<<20+1, 0, 4097)),
		"a shared block":      list(file("a", 600, 64, 2, 65, 1)),
		"files that share":    list(file("a", 512, 64, 2), file("b", 1, 65, 1)),
	}
}

func TestPackOfWhatIsNotRight(t *testing.T) {
	for what, l := range wrong() {
		wantNoPack(t, what, l, api.ErrArg)
	}
}

func TestPackOfTheEdges(t *testing.T) {
	for what, l := range map[string][]inode.File{
		"block 0":        list(file("a", 1, 0, 1)),
		"block 4095":     list(file("a", 1, 4095, 1)),
		"all blocks":     list(file("a", 1<<20, 0, 4096)),
		"two halves":     list(file("a", 1<<19, 2048, 2048), file("b", 1<<19-255, 0, 2048)),
		"16 extents":     list(scattered("a", 0, 16)),
		"the first 64":   list(file("a", 64*256, 0, 64)),
		"all but one":    list(file("a", 1<<20-256, 1, 4095), inode.File{Name: "b", Sealed: true, Size: 3, Extents: []api.Extent{{Start: 0, Count: 1}}}),
		"touching turns": list(file("a", 768, 66, 1, 65, 1, 64, 1)),
	} {
		wantUnpack(t, what, wantPack(t, what, l), l)
	}
}

// sized is a directory whose bytes, up to the Crc's end, are n (some 2300 to 3166).
func sized(n int) []inode.File {
	var l []inode.File
	for i := range 41 {
		l = append(l, scattered(fmt.Sprintf("%02d%s", i, strings.Repeat("x", 22)), 200+32*i, 16))
	}
	over := len(summed(l)) + 4 - n
	for i := range l {
		cut := min(over, 22)
		l[i].Name = l[i].Name[:24-cut]
		over -= cut
	}
	return l
}

func TestPackOfLengths(t *testing.T) {
	for n := 3040; n <= 3100; n++ {
		l := sized(n)
		if len(summed(l))+4 != n || !modelRight(l, 0, 4096) {
			t.Fatalf("not a directory of %d bytes", n)
		}
		if n > 3072 {
			wantNoPack(t, fmt.Sprintf("%d bytes", n), l, api.ErrLong)
			continue
		}
		s := wantPack(t, fmt.Sprintf("%d bytes", n), l)
		wantUnpack(t, fmt.Sprintf("%d bytes", n), s, l)
	}
}

func TestPackOfWhatIsMuchTooLong(t *testing.T) {
	var l []inode.File
	for i := range 64 {
		l = append(l, scattered(fmt.Sprintf("%02d%s", i, strings.Repeat("x", 22)), 200+32*i, 16))
	}
	wantNoPack(t, "64 files of 16 extents", l, api.ErrLong)
	l[63].Extents[15].Start = 200
	wantNoPack(t, "too long, and a block that is shared", l, api.ErrArg)
	l = append(l, file("z", 0))
	wantNoPack(t, "too long, and too many", l, api.ErrArg)
}

func TestPackSaysArgFirst(t *testing.T) {
	for what, bad := range wrong() {
		l := sized(3166)
		for i, f := range bad {
			// Behind all others, and where no other file's blocks are.
			if f.Name != "" {
				bad[i].Name = "zz" + f.Name
			}
		}
		wantNoPack(t, "too long, and "+what, append(l, bad...), api.ErrArg)
	}
	wantNoPack(t, "too long", append(sized(3166), file("zz", 1, 4095, 1)), api.ErrLong)
}

// What lies behind a list's length is neither read nor written.
func TestPackReadsTheListAlone(t *testing.T) {
	extents := []api.Extent{{Start: 64, Count: 2}, {Start: 70, Count: 1}, {Start: -1, Count: -1}}
	all := list(inode.File{Name: "a", Size: 700, Extents: extents[:2]}, file("b", 5, 66, 1), file("A", -1))
	was, wasExtents := clone(all), slices.Clone(extents)
	s := wantPack(t, "two of three", all[:2])
	wantRight(t, "two of three", all[:2], 64, 128, true)
	wantFind(t, all[:2], "c", 2, false)
	if !reflect.DeepEqual(all, was) || !slices.Equal(extents, wasExtents) {
		t.Error("what was handed in, or what lies behind it, is another")
	}
	all[0].Name, extents[0].Start = "q", 0
	wantUnpack(t, "what was packed", s, was[:2])
}

// N3

func TestUnpackOfLengths(t *testing.T) {
	s := wantPack(t, "two files", list(file("a", 300, 64, 2), file("b", 0)))
	for _, n := range []int{0, 1, 4, 5, 9, 28, 256, 3071} {
		wantNoUnpack(t, fmt.Sprintf("%d bytes", n), s[:n], api.ErrForm)
		wantNoUnpack(t, fmt.Sprintf("the last %d bytes", n), s[3072-n:], api.ErrForm)
	}
	wantNoUnpack(t, "3073 bytes", s+"\x00", api.ErrForm)
	wantNoUnpack(t, "3073 bytes", "\x00"+s, api.ErrForm)
	wantNoUnpack(t, "6144 bytes", s+s, api.ErrForm)
	wantNoUnpack(t, "very many bytes", strings.Repeat(s, 100), api.ErrForm)
	wantUnpack(t, "3072 bytes", s, list(file("a", 300, 64, 2), file("b", 0)))
}

// Whatever one byte becomes, it is seen.
func TestUnpackOfOneByteTurned(t *testing.T) {
	l := list(inode.File{Name: "a", Sealed: true, Size: 300, Extents: []api.Extent{{Start: 64, Count: 2}}}, file("bb", 600, 200, 1, 66, 2), file("c", 0))
	s := wantPack(t, "three files", l)
	head := len(summed(l))
	for at := range len(s) {
		for turn := 1; turn < 256; turn++ {
			if at > head+10 && at < 3060 && turn&(turn-1) != 0 {
				continue
			}
			b := []byte(s)
			b[at] ^= byte(turn)
			want := api.ErrSum
			if at >= head+4 {
				want = api.ErrForm
			} else if at < head {
				_, want = modelUnpack(string(b))
			}
			if want == api.OK {
				t.Fatalf("the model is not of that mind: byte %d, %d", at, turn)
			}
			wantNoUnpack(t, fmt.Sprintf("byte %d turned by %d", at, turn), string(b), want)
		}
	}
}

func TestUnpackOfAnotherBegin(t *testing.T) {
	for _, begin := range []string{"cdxi", "CDXT", "XDXI", "CXXI", "CDXX", "IXDC", "\x00\x00\x00\x00", "\x04CDXI"} {
		wantNoUnpack(t, begin, closed(begin+"\x01\x01a\x00\x00\x00"), api.ErrForm)
	}
	wantNoUnpack(t, "noughts", strings.Repeat("\x00", 3072), api.ErrForm)
	wantNoUnpack(t, "the begin and noughts", "CDXI"+strings.Repeat("\x00", 3068), api.ErrSum)
	wantNoUnpack(t, "bytes of 255", strings.Repeat("\xff", 3072), api.ErrForm)
	wantNoUnpack(t, "the begin and bytes of 255", "CDXI"+strings.Repeat("\xff", 3068), api.ErrForm)
	wantNoUnpack(t, "the begin and ones", "CDXI"+strings.Repeat("\x01", 3068), api.ErrForm)
}

// Of each number there is one form.
func TestUnpackOfNumbersThatAreLonger(t *testing.T) {
	wantUnpack(t, "as short as it can be", closed("CDXI\x01\x01a\x01\x05\x01\x40\x01"), list(inode.File{Name: "a", Sealed: true, Size: 5, Extents: []api.Extent{{Start: 64, Count: 1}}}))
	for _, head := range []string{
		"CDXI\x81\x00\x01a\x01\x05\x01\x40\x01", "CDXI\x01\x81\x00a\x01\x05\x01\x40\x01", "CDXI\x01\x01a\x81\x00\x05\x01\x40\x01",
		"CDXI\x01\x01a\x01\x85\x00\x01\x40\x01", "CDXI\x01\x01a\x01\x05\x81\x00\x40\x01", "CDXI\x01\x01a\x01\x05\x01\xc0\x00\x01",
		"CDXI\x01\x01a\x01\x05\x01\x40\x81\x00", "CDXI\x80\x00", "CDXI\x80\x80\x80\x00", "CDXI\x01\x01a\x80\x00\x00\x00", "CDXI\x01\x01a\x00\x80\x00\x00", "CDXI\x01\x01a\x00\x00\x80\x00",
		"CDXI\x01\x01a\x01\x05\x01\xc0\x80\x80\x80\x80\x80\x80\x80\x80\x00\x01",
		"CDXI\x01\x01a\x01\x05\x01\xc0\x80\x80\x80\x80\x80\x80\x80\x80\x02\x01", // 64 and 2^64
	} {
		wantNoUnpack(t, fmt.Sprintf("%q", head), closed(head), api.ErrForm)
	}
}

func TestUnpackOfSealed(t *testing.T) {
	for v := range 256 {
		s := closed("CDXI\x01\x01a" + string([]byte{byte(v)}) + "\x00\x00")
		if v < 2 {
			wantUnpack(t, "sealed", s, list(inode.File{Name: "a", Sealed: v == 1}))
		} else {
			wantNoUnpack(t, fmt.Sprintf("%d as sealed", v), s, api.ErrForm)
		}
	}
	for _, v := range []string{"\x80\x01", "\x81\x01", "\x80\x80\x01", "\xff\xff\xff\xff\xff\xff\xff\xff\xff\x01", "\x80\x80\x80\x80\x10", "\x81\x80\x80\x80\x10"} {
		wantNoUnpack(t, fmt.Sprintf("%q as sealed", v), closed("CDXI\x01\x01a"+v+"\x00\x00"), api.ErrForm)
	}
}

// great are numbers beyond what may stand anywhere, or that may come round to a small one.
func great() []uint64 {
	return []uint64{1<<20 + 1, 1<<31 - 1, 1 << 31, 1<<31 + 1, 1<<32 - 1, 1 << 32, 1<<32 + 1, 1<<63 - 1, 1 << 63, 1<<63 + 1, 1<<64 - 256, 1<<64 - 255, 1<<64 - 1}
}

func TestUnpackOfGreatNumbers(t *testing.T) {
	for _, v := range great() {
		n := string(binary.AppendUvarint(nil, v))
		for _, head := range []string{
			"CDXI" + n, "CDXI" + n + "\x01a\x00\x00\x00", "CDXI\x01" + n + "a\x00\x00\x00", "CDXI\x01\x01a" + n + "\x00\x00",
			"CDXI\x01\x01a\x00" + n + "\x00", "CDXI\x01\x01a\x00" + n + "\x01\x00\x01", "CDXI\x01\x01a\x00" + n + "\x01\x00\x80\x20", "CDXI\x01\x01a\x00\x00" + n, "CDXI\x01\x01a\x00\x01" + n + "\x40\x01",
			"CDXI\x01\x01a\x00\x01\x01" + n + "\x01", "CDXI\x01\x01a\x00\x01\x01\x40" + n, "CDXI\x01\x01a\x00" + n + "\x01\x00" + string(binary.AppendUvarint(nil, v>>8+1)),
		} {
			wantNoUnpack(t, fmt.Sprintf("%q", head), closed(head), api.ErrForm)
		}
	}
}

func TestUnpackOfHowMany(t *testing.T) {
	for _, n := range []int{0, 1, 63, 64, 65, 66, 127, 128, 200} {
		head := summed(empties(n))
		if n <= 64 {
			wantUnpack(t, "n files", closed(head), empties(n))
		} else {
			wantNoUnpack(t, fmt.Sprintf("%d files", n), closed(head), api.ErrForm)
		}
	}
	for n := range 20 {
		l := list(scattered("a", 64, n))
		if n <= 16 {
			wantUnpack(t, "n extents", closed(summed(l)), l)
		} else {
			wantNoUnpack(t, fmt.Sprintf("%d extents", n), closed(summed(l)), api.ErrForm)
		}
	}
	// One file said to be there more than there are, or fewer.
	three := summed(empties(3))
	for _, n := range []int{0, 1, 2, 4, 64} {
		wantNoUnpack(t, fmt.Sprintf("%d files for 3", n), closed(three[:4]+string(rune(n))+three[5:]), api.ErrForm)
	}
}

func TestUnpackOfWhatIsNotRight(t *testing.T) {
	for what, l := range wrong() {
		s := formed(l)
		wantNoUnpack(t, what, s, api.ErrForm)
		at := len(summed(l))
		wantNoUnpack(t, what+", and another Crc", s[:at]+"abcd"+s[at+4:], api.ErrForm)
	}
}

func TestUnpackOfBytesBehindTheCrc(t *testing.T) {
	for _, n := range []int{3, 3040, 3068, 3071, 3072} {
		l := sized(max(n, 3040))
		if n < 3040 {
			l = empties(n)
		}
		s := wantPack(t, "to be added to", l)
		for at := len(summed(l)) + 4; at < 3072; at++ {
			b := []byte(s)
			b[at] = 1
			wantNoUnpack(t, fmt.Sprintf("byte %d is no nought", at), string(b), api.ErrForm)
			b[len(summed(l))] ^= 1
			wantNoUnpack(t, fmt.Sprintf("byte %d is no nought, and another Crc", at), string(b), api.ErrForm)
		}
	}
}

func TestUnpackOfAnotherCrc(t *testing.T) {
	for what, l := range map[string][]inode.File{"nothing": nil, "a file": list(file("a", 300, 64, 2)), "64 files": empties(64), "3071 bytes": sized(3071), "3072 bytes": sized(3072)} {
		s := wantPack(t, what, l)
		at := len(summed(l))
		for bit := range 32 {
			b := []byte(s)
			b[at+bit/8] ^= 1 << (bit % 8)
			wantNoUnpack(t, fmt.Sprintf("%s, bit %d of the Crc", what, bit), string(b), api.ErrSum)
			b[0] = 'x'
			wantNoUnpack(t, fmt.Sprintf("%s, bit %d of the Crc, another begin", what, bit), string(b), api.ErrForm)
		}
		wantNoUnpack(t, what+", its Crc turned about", s[:at]+string([]byte{s[at+3], s[at+2], s[at+1], s[at]})+s[at+4:], api.ErrSum)
	}
	wantNoUnpack(t, "the Crc of another", strings.Replace(closed("CDXI\x01\x01a\x00\x00\x00"), "a", "b", 1), api.ErrSum)
	wantNoUnpack(t, "a noughts' Crc", "CDXI\x01\x01a\x00\x00\x00"+strings.Repeat("\x00", 3062), api.ErrSum)
}

// A Crc that has no room, whole or in part.
func TestUnpackOfWhatIsCutShort(t *testing.T) {
	for n := 3073; n < 3090; n++ {
		s := formed(sized(n))
		wantNoUnpack(t, fmt.Sprintf("3072 of %d bytes", n), s[:3072], api.ErrForm)
	}
	for _, tail := range []string{"\x40a", "\x01", "\x01a", "\x01a\x00", "\x01a\x00\x01", "\x01a\x00\x01\x01", "\x01a\x00\x01\x01\x40", "\x80", "\x01a\x80", "\x01a\x00\x80"} {
		for n := 2900; n < 3072; n++ {
			// One file more is said to be there, and does not end.
			s := summed(sized(n))
			s = s[:4] + "\x2a" + s[5:] + tail
			if len(s) <= 3072 {
				s += strings.Repeat("\x80", 3072-len(s))
				wantNoUnpack(t, fmt.Sprintf("%d bytes and %q", n, tail), s, api.ErrForm)
			}
		}
	}
}

// N4, and what an answer shares

func TestWhatWasPackedIsUnpacked(t *testing.T) {
	l := list(inode.File{Name: "-", Sealed: true, Size: 4096, Extents: scattered("", 100, 16).Extents}, file("a", 1, 0, 1), file("a.b", 0), inode.File{Name: "z", Sealed: true, Size: 512, Extents: []api.Extent{{Start: 4094, Count: 2}}})
	s := wantPack(t, "four files", l)
	m, e := inode.Unpack(s)
	if e != api.OK || !same(m, l) {
		t.Fatalf("Unpack: %v, %v; want %v", m, e, l)
	}
	if again := wantPack(t, "what was unpacked", m); again != s {
		t.Errorf("%q; want %q", again, s)
	}
}

func TestUnpackedListsShareNothing(t *testing.T) {
	l := list(file("a", 700, 64, 2, 70, 1), file("b", 300, 80, 2), file("c", 0), file("d", 5, 90, 1))
	s := wantPack(t, "four files", l)
	a, _ := inode.Unpack(s)
	b, _ := inode.Unpack(s)
	for i := range a {
		// Beyond its length, too: what is added to one list is not seen in another.
		a[i].Extents = append(a[i].Extents, api.Extent{Start: -7, Count: -7})
		if !same(a[i+1:], l[i+1:]) {
			t.Fatalf("file %d shares with one behind it", i)
		}
	}
	for i := range a {
		for j := range a[i].Extents {
			a[i].Extents[j] = api.Extent{Start: -1, Count: -1}
		}
		a[i].Name, a[i].Size = "q", -1
	}
	if !same(b, l) {
		t.Errorf("what one Unpack told has changed with another's: %v", b)
	}
	wantUnpack(t, "once more", s, l)
}
