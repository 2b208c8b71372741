package postings_test

import (
	"math/rand"
	"slices"
	"strings"
	"testing"

	"codex/api"
	"codex/postings"
)

func wantRight(t *testing.T, ok bool, l ...api.Posting) {
	t.Helper()
	if modelRight(l) != ok {
		t.Fatalf("%s: want %v", short(l), ok)
	}
	holdList(t, l)
}

// wantBytes takes numbers, each of them below 256, as bytes.
func wantBytes(t *testing.T, l []api.Posting, want ...byte) {
	t.Helper()
	if s, e := postings.Pack(l); s != string(want) || e != api.OK {
		t.Errorf("Pack(%v): %d, %v; want %d", l, []byte(s), e, want)
	}
	holdRight(t, l)
}

// P1, of Right and Pack

func TestNoPosting(t *testing.T) {
	wantBytes(t, nil, 0)
	wantBytes(t, []api.Posting{}, 0)
	wantBytes(t, []api.Posting{p(0, 0)}[:0], 0)
}

func TestOnePosting(t *testing.T) {
	wantBytes(t, []api.Posting{p(0, 0)}, 1, 1, 1, 1)
	wantBytes(t, []api.Posting{p(1, 0)}, 1, 2, 1, 1)
	wantBytes(t, []api.Posting{p(0, 1)}, 1, 1, 1, 2)
	wantBytes(t, []api.Posting{p(7, 2, 5, 6)}, 1, 8, 3, 3, 3, 1)
	wantBytes(t, []api.Posting{p(499, 1999)}, 1, 0xf4, 3, 1, 0xd0, 0xf)
	wantBytes(t, []api.Posting{p(126, 126)}, 1, 127, 1, 127)
	wantBytes(t, []api.Posting{p(127, 127)}, 1, 128, 1, 1, 128, 1)
}

func TestHowManyPostings(t *testing.T) {
	for _, n := range []int{1, 2, 10, 126, 127, 128, 129, 250, 498, 499, 500} {
		wantRight(t, true, row(n, 0, 1)...)
		wantRight(t, true, row(n, 500-n, 1)...)
		holdRight(t, row(n, 0, 1))
		holdRight(t, row(n, 500-n, 1))
	}
	for _, n := range []int{501, 502, 510, 1000, 5000} {
		wantRight(t, false, row(n, 0, 1)...)
		wantRight(t, false, row(n, 500-n, 1)...)
		wantRight(t, false, row(n, 7, 0)...)
		wantRight(t, false, append(row(500, 0, 1), row(n-500, 499, 0)...)...)
	}
}

func TestDocsRise(t *testing.T) {
	for _, docs := range [][]int{{0, 1}, {0, 499}, {498, 499}, {3, 9}, {0, 1, 2}, {0, 2, 4}, {127, 128, 255, 256}} {
		var l []api.Posting
		for _, doc := range docs {
			l = append(l, p(doc, 3))
		}
		wantRight(t, true, l...)
		holdRight(t, l)
	}
	for _, docs := range [][]int{
		{0, 0}, {1, 0}, {499, 499}, {499, 498}, {499, 0}, {3, 3}, {9, 3}, {0, 1, 1}, {0, 2, 1}, {0, 0, 1}, {1, 0, 2}, {5, 6, 5}, {5, 5, 5}, {0, 1, 2, 3, 4, 5, 6, 7, 7}, {0, 1, 2, 3, 4, 5, 6, 7, 0},
		{1, 2, 3, 4, 5, 6, 7, 8, 9, 8, 10}, {256, 0}, {128, 127},
	} {
		var l []api.Posting
		for _, doc := range docs {
			l = append(l, p(doc, 3))
		}
		wantRight(t, false, l...)
	}
}

// In a list of so many one alone stands still, or falls.
func TestOneDocDoesNotRise(t *testing.T) {
	for _, n := range []int{2, 7, 8, 9, 10, 16, 17, 18, 25, 100} {
		for i := 1; i < n; i++ {
			l := row(n, 10, 4)
			l[i].Doc = l[i-1].Doc
			wantRight(t, false, l...)
			l[i].Doc--
			wantRight(t, false, l...)
			l[i].Doc += 2
			wantRight(t, true, l...)
		}
	}
}

func wrongDocs() []int {
	return []int{-1, -2, -100, -500, -1 << 31, -1 << 62, -1 << 63, 500, 501, 511, 512, 627, 1000, 2000, 1 << 16, 1 << 31, 1 << 32, 1<<32 + 5, 1 << 62, 1<<63 - 1}
}

func TestDocsInTheirBounds(t *testing.T) {
	for doc := range 500 {
		wantRight(t, true, p(doc, 5))
		holdRight(t, []api.Posting{p(doc, 5)})
	}
	for _, doc := range wrongDocs() {
		wantRight(t, false, p(doc, 5))
		wantRight(t, false, p(doc, 5), p(7, 5))
		wantRight(t, false, p(7, 5), p(doc, 5))
		wantRight(t, false, p(7, 5), p(doc, 5), p(9, 5))
		wantRight(t, false, append(row(20, 0, 2), p(doc, 5))...)
		wantRight(t, false, append([]api.Posting{p(doc, 5)}, row(20, 0, 2)...)...)
	}
	wantRight(t, true, p(0, 5), p(499, 5))
	wantRight(t, false, p(-1, 5), p(0, 5))
	wantRight(t, false, p(499, 5), p(500, 5))
}

func TestHowManyPlaces(t *testing.T) {
	for _, n := range []int{1, 2, 126, 127, 128, 129, 1000, 1998, 1999, 2000} {
		wantRight(t, true, p(4, places(n, 0)...))
		wantRight(t, true, p(4, places(n, 2000-n)...))
		holdRight(t, []api.Posting{p(4, places(n, 0)...), p(9, places(n, 2000-n)...)})
	}
	for _, n := range []int{2001, 2002, 2500, 5000} {
		wantRight(t, false, p(4, places(n, 0)...))
		wantRight(t, false, p(4, places(n, 2000-n)...))
		wantRight(t, false, p(4, append(places(2000, 0), slices.Repeat([]int{1999}, n-2000)...)...))
		wantRight(t, false, p(4, slices.Repeat([]int{5}, n)...))
	}
}

func TestNoPlace(t *testing.T) {
	wantRight(t, false, p(0))
	wantRight(t, false, api.Posting{})
	wantRight(t, false, p(499))
	wantRight(t, false, api.Posting{Doc: 3, Pos: []int{}})
	wantRight(t, false, p(0, 1), p(1))
	wantRight(t, false, p(0), p(1, 1))
	for i := range 20 {
		l := row(20, 0, 3)
		l[i].Pos = nil
		wantRight(t, false, l...)
	}
}

func TestPlacesRise(t *testing.T) {
	for _, pos := range [][]int{{0, 1}, {0, 1999}, {1998, 1999}, {3, 4, 5}, {3, 9, 100}, {127, 128, 255, 256}} {
		wantRight(t, true, p(0, pos...))
		holdRight(t, []api.Posting{p(3, pos...), p(4, pos...)})
	}
	for _, pos := range [][]int{
		{0, 0}, {1, 0}, {1999, 1999}, {1999, 1998}, {1999, 0}, {3, 3}, {9, 3}, {0, 1, 1}, {0, 2, 1}, {0, 0, 1}, {1, 0, 2}, {5, 6, 5}, {5, 5, 5}, {256, 0}, {128, 127},
	} {
		wantRight(t, false, p(0, pos...))
		wantRight(t, false, p(0, 1), p(1, pos...))
		wantRight(t, false, p(0, pos...), p(1, 1))
		wantRight(t, false, append(row(20, 0, 3), p(100, pos...))...)
	}
	for i := 1; i < 30; i++ {
		pos := places(30, 7)
		pos[i] = pos[i-1]
		wantRight(t, false, p(0, pos...))
		pos[i]--
		wantRight(t, false, p(0, pos...))
	}
}

func wrongPlaces() []int {
	return []int{-1, -2, -2000, -1 << 31, -1 << 62, -1 << 63, 2000, 2001, 2047, 2048, 4096, 1 << 16, 1 << 31, 1 << 32, 1<<32 + 5, 1 << 62, 1<<63 - 1}
}

func TestPlacesInTheirBounds(t *testing.T) {
	for pos := range 2000 {
		wantRight(t, true, p(5, pos))
		holdRight(t, []api.Posting{p(5, pos)})
	}
	for _, pos := range wrongPlaces() {
		wantRight(t, false, p(5, pos))
		wantRight(t, false, p(5, pos, 7))
		wantRight(t, false, p(5, 7, pos))
		wantRight(t, false, p(5, 7, pos, 9))
		wantRight(t, false, p(5, 7), p(6, pos))
		wantRight(t, false, p(5, pos), p(6, 7))
		wantRight(t, false, append(row(20, 0, 2), p(100, pos))...)
	}
	wantRight(t, true, p(5, 0, 1999))
	wantRight(t, false, p(5, -1, 0))
	wantRight(t, false, p(5, 1999, 2000))
}

// What is right of a place is not right of a Doc.
func TestPlacesAreNoDocs(t *testing.T) {
	wantRight(t, true, p(0, 500), p(1, 1999), p(2, 499))
	wantRight(t, true, p(400, 0), p(401, 0), p(402, 0, 400))
	wantRight(t, false, p(500, 500))
	wantRight(t, false, p(1999, 0))
}

func skipsOf(l []api.Posting) []int {
	skips, _ := sections(l)
	return skips
}

func TestSkips(t *testing.T) {
	for n, want := range map[int]int{0: 0, 1: 0, 2: 0, 7: 0, 8: 0, 9: 1, 10: 1, 15: 1, 16: 1, 17: 2, 23: 2, 24: 2, 25: 3, 26: 3, 32: 3, 33: 4, 64: 7, 65: 8, 496: 61, 497: 62, 500: 62} {
		l := row(n, 0, 1)
		if skips := skipsOf(l); len(skips) != 2*want {
			t.Fatal(n, skips)
		}
		holdRight(t, l)
	}
	one := []byte{1, 1, 1}
	bytes := func(ahead []byte, n int, behind ...byte) []byte {
		return slices.Concat(ahead, slices.Repeat(one, n), behind)
	}
	flat := func(n int) []api.Posting {
		l := row(n, 0, 1)
		for i := range l {
			l[i].Pos = []int{0}
		}
		return l
	}
	wantBytes(t, flat(7), bytes([]byte{7}, 7)...)
	wantBytes(t, flat(8), bytes([]byte{8}, 8)...)
	wantBytes(t, flat(9), bytes([]byte{9, 8, 24}, 9)...)
	wantBytes(t, flat(16), bytes([]byte{16, 8, 24}, 16)...)
	wantBytes(t, flat(17), bytes([]byte{17, 8, 24, 8, 24}, 17)...)
	wantBytes(t, flat(24), bytes([]byte{24, 8, 24, 8, 24}, 24)...)
	wantBytes(t, flat(25), bytes([]byte{25, 8, 24, 8, 24, 8, 24}, 25)...)
	wantBytes(t, append(flat(7), p(20, 0), p(220, 0)), bytes([]byte{9, 21, 24}, 7, 14, 1, 1, 200, 1, 1, 1)...)
	wantBytes(t, append(flat(7), p(200, 0), p(201, 3)), bytes([]byte{9, 201, 1, 25}, 7, 194, 1, 1, 1, 1, 1, 4)...)
	wantBytes(t, append(flat(7), p(7, 0, 200), p(8, 0)), bytes([]byte{9, 8, 26}, 7, 1, 2, 1, 200, 1, 1, 1, 1)...)
}

func TestAllLengths(t *testing.T) {
	for n := range 501 {
		holdRight(t, row(n, 0, 1))
		holdRight(t, row(n, 500-n, 1))
		if n > 0 {
			holdRight(t, row(n, 0, 500/n))
		}
	}
}

// Each number of the bytes is once one of one byte, and once one of two.
func TestNumbersOfTwoBytes(t *testing.T) {
	for _, far := range []int{1, 2, 125, 126, 127, 128, 129, 130, 255, 256, 257} {
		holdRight(t, row(far, 0, 1))
		holdRight(t, row(far, 0, 1)[far-1:])
		holdRight(t, []api.Posting{p(499-far, 0), p(499, 0)})
		holdRight(t, []api.Posting{p(0, far-1, 2*far-1, 2*far, 3*far)})
		holdRight(t, []api.Posting{p(0, places(far, 0)...), p(1, places(far, 5)...)})
		for i := range 25 {
			moved := row(25, 0, 1)
			for k := i; k < len(moved); k++ {
				moved[k].Doc += far - 1
			}
			holdRight(t, moved)
			wide := row(25, 0, 1)
			wide[i].Pos = []int{far - 1, 1000, 1000 + far}
			holdRight(t, wide)
			many := row(25, 0, 1)
			many[i].Pos = places(far, 9)
			holdRight(t, many)
		}
	}
	for size := 100; size < 150; size++ { // bytes of eight, the one last of them with as many places as make it so
		l := row(25, 0, 2)
		for i := 7; i < len(l); i += 8 {
			l[i].Pos = places(size-23, 0)
		}
		holdRight(t, l)
		if skips := skipsOf(l); skips[1] != size || skips[3] != size || skips[5] != size {
			t.Fatal(size, skips)
		}
	}
}

// P1, of Unpack and Count

// chosenFew are right lists that are short enough for each of their bytes to be tried.
func chosenFew() [][]api.Posting {
	return [][]api.Posting{
		nil, {p(0, 0)}, {p(499, 1999)}, {p(0, 1, 4), p(3, 0)}, {p(127, 127), p(255, 255)}, {p(3, 0, 1, 2, 130), p(131, 128, 256, 1999), p(499, 0)}, {p(0, places(128, 0)...)},
		row(7, 0, 1), row(8, 0, 1), row(9, 0, 1), row(9, 3, 60), row(16, 100, 2), row(17, 0, 20), row(24, 5, 1), row(25, 0, 20),
		append(row(8, 0, 30), p(499, 0)), append(row(7, 0, 1), p(127, places(120, 40)...), p(300, 1, 200)), append(row(15, 0, 1), p(200, 0, 150), p(201, 77)),
	}
}

func TestBytesCutShort(t *testing.T) {
	for _, l := range append(chosenFew(), row(500, 0, 1), []api.Posting{p(0, places(2000, 0)...)}) {
		s := modelPack(l)
		for i := range len(s) {
			wantForm(t, s[:i])
		}
	}
}

func TestMoreBehind(t *testing.T) {
	for _, l := range append(chosenFew(), row(500, 0, 1), []api.Posting{p(0, places(2000, 0)...)}) {
		s := modelPack(l)
		for c := range 256 {
			wantForm(t, s+string([]byte{byte(c)}))
		}
		wantForm(t, s+"\x01\x01\x01")
		wantForm(t, s+s)
		wantForm(t, s+strings.Repeat("\x00", 100))
	}
}

func TestEachByteMadeAnother(t *testing.T) {
	for _, l := range chosenFew() {
		s := modelPack(l)
		for i := range len(s) {
			for c := range 256 {
				if len(s) < 50 || c%5 == i%5 || c == int(s[i])^128 {
					holdBytes(t, s[:i]+string([]byte{byte(c)})+s[i+1:])
				}
			}
		}
	}
}

func TestBytesPutInAndTakenOut(t *testing.T) {
	for _, l := range chosenFew() {
		s := modelPack(l)
		for i := range len(s) {
			holdBytes(t, s[:i]+s[i+1:])
			for _, c := range []byte{0, 1, 2, 3, 127, 128, 129, 255, s[i]} {
				holdBytes(t, s[:i]+string([]byte{c})+s[i:])
			}
		}
	}
}

func TestAllBytesOfFew(t *testing.T) {
	wantForm(t, "")
	few := []byte{0, 1, 2, 3, 9, 127, 128, 129, 243, 244, 255}
	for c := range 256 {
		holdBytes(t, string([]byte{byte(c)}))
		for d := range 256 {
			holdBytes(t, string([]byte{byte(c), byte(d)}))
		}
	}
	for _, c := range few {
		for _, d := range few {
			for _, e := range few {
				for _, f := range few {
					holdBytes(t, string([]byte{1, c, d, e, f}))
					holdBytes(t, string([]byte{1, 1, 1, c, d, e, f}))
					holdBytes(t, string([]byte{2, 1, 1, 1, c, d, e, f}))
					holdBytes(t, string([]byte{c, d, e, f}))
				}
			}
		}
	}
}

// padded is a number in one byte more than it needs.
func padded(v int) string {
	b := []byte(numberBytes(v))
	b[len(b)-1] += 128
	return string(b) + "\x00"
}

func withNumber(l []int, i int, s string) string { return bytesOf(l[:i]) + s + bytesOf(l[i+1:]) }

func TestNumbersInMoreBytes(t *testing.T) {
	for _, l := range chosenFew() {
		numbers := allNumbers(l)
		for i, v := range numbers {
			wantForm(t, withNumber(numbers, i, padded(v)))
			wantForm(t, withNumber(numbers, i, padded(v)[:len(padded(v))-1]+"\x80\x00"))
		}
	}
	wantForm(t, "\x80\x00")
	wantForm(t, "\x81\x00\x01\x01\x01")
}

// The skips tell as many bytes as the postings then have.
func TestNumbersInMoreBytesThatAreCounted(t *testing.T) {
	for _, l := range chosenFew() {
		skips, each := sections(l)
		for i := range each {
			for k, v := range each[i] {
				told := slices.Clone(skips)
				if i/8*2 < len(told) {
					told[i/8*2+1]++
				}
				head := bytesOf(append([]int{len(l)}, told...))
				wantForm(t, head+bytesOf(slices.Concat(each[:i]...))+withNumber(each[i], k, padded(v))+bytesOf(slices.Concat(each[i+1:]...)))
			}
		}
	}
}

func largeNumbers() []string {
	return []string{
		"\xff\xff\x03", "\x80\x80\x04", "\x81\x80\x04", "\xff\xff\xff\x7f", "\xff\xff\xff\xff\x07", "\x80\x80\x80\x80\x08", "\xff\xff\xff\xff\x0f", "\x80\x80\x80\x80\x10",
		"\xff\xff\xff\xff\xff\xff\xff\xff\x7f", "\x80\x80\x80\x80\x80\x80\x80\x80\x80\x01", "\xff\xff\xff\xff\xff\xff\xff\xff\xff\x01", "\xfe\xff\xff\xff\xff\xff\xff\xff\xff\x01",
		"\xff\xff\xff\xff\xff\xff\xff\xff\xff\x02", "\x80\x80\x80\x80\x80\x80\x80\x80\x80\x02", "\xff\xff\xff\xff\xff\xff\xff\xff\xff\xff\x01", "\x80\x80\x80\x80\x80\x80\x80\x80\x80\x80\x00",
	}
}

func TestLargeNumbers(t *testing.T) {
	for _, l := range chosenFew() {
		numbers := allNumbers(l)
		for i := range numbers {
			for _, s := range largeNumbers() {
				wantForm(t, withNumber(numbers, i, s))
				wantForm(t, bytesOf(numbers[:i])+s)
			}
		}
	}
	for _, s := range largeNumbers() {
		wantForm(t, s)
		wantForm(t, s+strings.Repeat("\x01", 1000))
		wantForm(t, "\x01\x01"+s+strings.Repeat("\x01", 3000))
		wantForm(t, "\x09"+s+s+strings.Repeat("\x01", 27))
		wantForm(t, "\x19\x01\x18"+s+s+s+s+strings.Repeat("\x01", 75))
	}
	// 2^64 - 1 more is one less, for who counts no further.
	less := "\xff\xff\xff\xff\xff\xff\xff\xff\xff\x01"
	wantForm(t, "\x02\x03\x01\x01"+less+"\x01\x01")
	wantForm(t, "\x01\x01\x02\x03"+less)
}

// One number alone is another: the skips' are no longer those of the postings; of the postings' own, some are those of another list.
func TestEachNumberMadeAnother(t *testing.T) {
	for _, l := range chosenFew() {
		numbers, skips := allNumbers(l), len(skipsOf(l))
		for i, v := range numbers {
			for _, other := range []int{0, 1, 2, 3, 24, v - 8, v - 1, v + 1, v + 8, 2 * v, 127, 128, 499, 500, 501, 1999, 2000, 2001} {
				if other < 0 || other == v {
					continue
				}
				s := withNumber(numbers, i, numberBytes(other))
				if i > 0 && i <= skips {
					wantForm(t, s)
				}
				holdBytes(t, s)
			}
		}
	}
}

func TestSkipsOfOthers(t *testing.T) {
	for _, n := range []int{9, 16, 17, 24, 25, 33, 100} {
		l := row(n, 0, 1)
		skips, each := sections(l)
		body := bytesOf(slices.Concat(each...))
		head := func(numbers ...int) string { return bytesOf(append([]int{n}, numbers...)) }
		wantForm(t, head()+body)
		wantForm(t, head(skips[2:]...)+body)
		wantForm(t, head(skips[:len(skips)-2]...)+body)
		wantForm(t, head(append(slices.Clone(skips), 8, 24)...)+body)
		wantForm(t, head(slices.Repeat([]int{0}, len(skips))...)+body)
		for i := 0; i < len(skips); i += 2 {
			other := slices.Clone(skips)
			other[i], other[i+1] = other[i+1], other[i]
			wantForm(t, head(other...)+body)
		}
		for i := 2; i < len(skips); i += 2 { // what one has too much the next one has too little
			for k := range 2 {
				other := slices.Clone(skips)
				other[i-2+k]++
				other[i+k]--
				wantForm(t, head(other...)+body)
				other[i-2+k] -= 2
				other[i+k] += 2
				wantForm(t, head(other...)+body)
			}
		}
	}
	for n := 1; n <= 8; n++ { // and a skip where there is none
		numbers := allNumbers(row(n, 0, 1))
		holdBytes(t, bytesOf(append([]int{n, n, 3 * n}, numbers[1:]...)))
		holdBytes(t, bytesOf(append([]int{n, 0, 0}, numbers[1:]...)))
	}
	wantForm(t, bytesOf([]int{0, 0, 0}))
}

// Each list has the bytes that it would have, but is not right.
func TestBytesOfListsThatAreNotRight(t *testing.T) {
	long := row(20, 0, 3)
	for _, l := range [][]api.Posting{
		{p(-1, 0)}, {p(500, 0)}, {p(501, 0)}, {p(1000, 0)}, {p(65000, 0)}, {p(3, 0), p(500, 0)}, {p(499, 0), p(500, 0)}, {p(-1, 0), p(0, 0)},
		{p(0, 0), p(0, 0)}, {p(3, 0), p(3, 1)}, {p(499, 0), p(499, 0)}, {p(0, 0), p(1, 0), p(1, 0)},
		{p(0)}, {p(499)}, {p(0, 0), p(1)}, {p(0), p(1, 0)}, {p(0, 0), p(1), p(2, 0)},
		{p(0, -1)}, {p(0, 2000)}, {p(0, 2001)}, {p(0, 65000)}, {p(0, -1, 0)}, {p(0, 0, 0)}, {p(0, 1999, 1999)}, {p(0, 1999, 2000)}, {p(0, 1, 2, 2)}, {p(0, 0), p(1, 2000)}, {p(0, 2000), p(1, 0)},
		{p(0, places(2001, 0)...)}, {p(0, places(2001, -1)...)}, {p(0, append(places(2000, 0), 1999)...)}, {p(0, slices.Repeat([]int{7}, 3000)...)},
		row(501, 0, 1), row(501, -1, 1), row(501, 0, 0), row(1000, 0, 1), row(600, 3, 0), append(row(500, 0, 1), p(499, 0)), append(row(500, 0, 1), p(500, 0)),
		append(slices.Clone(long), p(57, 0)), append(slices.Clone(long), p(500, 0)), append(slices.Clone(long), p(60)), append(slices.Clone(long), p(60, 2000)), append([]api.Posting{p(-1, 0)}, long...),
		append([]api.Posting{p(0, 1)}, long...), append([]api.Posting{p(0)}, row(20, 1, 3)...), append([]api.Posting{p(0, 2000)}, row(20, 1, 3)...),
	} {
		wantRight(t, false, l...)
		wantForm(t, modelPack(l))
	}
	for i := range 25 {
		for _, x := range []api.Posting{p(0), p(0, 2000), p(0, 1, 1), p(0, -1)} {
			l := row(25, 0, 2)
			l[i].Pos = x.Pos
			wantForm(t, modelPack(l))
		}
		if i > 0 {
			l := row(25, 0, 2)
			l[i].Doc = l[i-1].Doc
			wantForm(t, modelPack(l))
		}
	}
}

func TestCount(t *testing.T) {
	for _, l := range append(chosenFew(), row(126, 0, 1), row(127, 0, 1), row(128, 0, 1), row(129, 0, 1), row(255, 0, 1), row(256, 0, 1), row(499, 0, 1), row(500, 0, 1)) {
		if n := postings.Count(modelPack(l)); n != len(l) {
			t.Errorf("%s: %d", short(l), n)
		}
	}
	for _, s := range append(largeNumbers(), "", "\x80", "\xff\xff", "\x80\x00", "\xf5\x03", strings.Repeat("\xff", 1000)) {
		goOver(s)
	}
}

func TestBytesByChance(t *testing.T) {
	r := rand.New(rand.NewSource(1))
	for range 10000 {
		b := make([]byte, r.Intn(60))
		for i := range b {
			b[i] = byte(r.Intn([]int{3, 10, 130, 256}[r.Intn(4)]))
		}
		holdBytes(t, string(b))
	}
	for range 3000 {
		b := []byte(modelPack(chosenList(r, r.Intn(40))))
		for range 1 + r.Intn(3) {
			i := r.Intn(len(b))
			switch r.Intn(4) {
			case 0:
				b[i] = byte(r.Intn(256))
			case 1:
				b[i] += byte(r.Intn(3)) - 1
			case 2:
				b[i] ^= 128
			case 3:
				k := r.Intn(len(b))
				b[i], b[k] = b[k], b[i]
			}
		}
		holdBytes(t, string(b))
	}
}

// P2

func fewForFrom() [][]api.Posting {
	r := rand.New(rand.NewSource(2))
	l := append(chosenFew(), row(1, 499, 1), row(1, 250, 1), row(2, 0, 499), row(8, 492, 1), row(9, 491, 1), row(25, 475, 1), row(25, 0, 1), row(25, 13, 20), row(24, 1, 20), row(17, 9, 30), row(16, 490, 0)[:1])
	for n := range 26 {
		l = append(l, chosenList(r, n), chosenList(r, n), row(n, 0, 2), row(n, 7, 19))
	}
	return l
}

func TestFromEachDoc(t *testing.T) {
	for _, l := range fewForFrom() {
		s := modelPack(l)
		for doc := -1; doc <= 500; doc++ {
			holdFrom(t, s, l, doc)
		}
		for _, doc := range wrongDocs() {
			holdFrom(t, s, l, doc)
		}
	}
}

// leave takes n postings (all, if there are fewer), and leaves the others.
func leave(from func(func(api.Posting) bool), n int) []api.Posting {
	var l []api.Posting
	for x := range from {
		l = append(l, x)
		if len(l) >= n {
			break
		}
	}
	return l
}

func TestFromIsLeftAndGoneOverAgain(t *testing.T) {
	for _, l := range fewForFrom() {
		s := modelPack(l)
		for _, doc := range []int{-1, 0, 1, 7, 8, 9, 40, 150, 300, 499, 500} {
			want := modelFrom(l, doc)
			from := postings.From(s, doc)
			for n := 1; n <= len(want)+1; n++ {
				for range 2 {
					if x := leave(from, n); !same(x, want[:min(n, len(want))]) {
						t.Fatalf("From(% x, %d), left behind %d: %s; want %s", s, doc, n, short(x), short(want))
					}
				}
				if x := leave(from, 1000); !same(x, want) {
					t.Fatalf("From(% x, %d), again: %s; want %s", s, doc, short(x), short(want))
				}
			}
		}
	}
}

// A call that is answered by false asks for no more.
func TestFromStopsWhenItIsLeft(t *testing.T) {
	for _, n := range []int{1, 2, 8, 9, 25} {
		from := postings.From(modelPack(row(n, 0, 3)), 0)
		for stop := range n {
			asked := 0
			from(func(api.Posting) bool {
				asked++
				return asked <= stop
			})
			if asked != stop+1 {
				t.Errorf("%d postings, left at %d: %d", n, stop, asked)
			}
		}
	}
}

func TestFromWithinFrom(t *testing.T) {
	l := chosenList(rand.New(rand.NewSource(3)), 25)
	from := postings.From(modelPack(l), l[3].Doc)
	i := 3
	for x := range from {
		if !same([]api.Posting{x}, l[i:i+1]) {
			t.Fatal(i, x)
		}
		if y := leave(from, i); !same(y, l[3:min(3+i, 25)]) {
			t.Fatal(i, short(y))
		}
		i++
	}
	if i != 25 {
		t.Error(i)
	}
}

// What lies ahead is leapt over: no list of places is made of it, but for the eight among which the first one is.
func TestFromLeaps(t *testing.T) {
	s := modelPack(row(500, 0, 1))
	made := func(doc int) float64 {
		return testing.AllocsPerRun(10, func() {
			for range postings.From(s, doc) {
			}
		})
	}
	whole := made(0)
	for _, doc := range []int{8, 15, 16, 100, 250, 480, 499} {
		if n, most := made(doc), whole-float64(doc/8*8); n > most {
			t.Errorf("From %d: %v lists; of all %v", doc, n, whole)
		}
	}
}

func TestFromOfOtherBytes(t *testing.T) {
	for _, l := range chosenFew() {
		s := modelPack(l)
		for i := range len(s) {
			goOver(s[i:])
			goOver(s[:i] + s)
			goOver(s[:i] + "\xff\xff\xff\xff\xff\xff\xff\xff\xff\x01" + s[i:])
		}
	}
	for _, s := range largeNumbers() {
		for n := range 40 {
			goOver("\x09" + strings.Repeat("\x01", n) + s)
			goOver(strings.Repeat("\x10", n) + strings.Repeat(s, 20))
			goOver(strings.Repeat(s, n))
		}
	}
	goOver(strings.Repeat("\x00", 5000))
	goOver(strings.Repeat("\x7f", 5000))
	goOver("\x7f" + strings.Repeat("\x00", 5000))
	goOver("\xf4\x03" + strings.Repeat("\x00", 5000))
	goOver(strings.Repeat("\xf4\x03", 5000))
}

// P3

func holdFollowing(t *testing.T, l []api.Posting) {
	t.Helper()
	s, e := postings.Pack(l)
	if e != api.OK {
		t.Fatal(short(l), e)
	}
	back, e := postings.Unpack(s)
	if !same(back, l) || e != api.OK {
		t.Fatalf("%s was packed; unpacked: %s, %v", short(l), short(back), e)
	}
	if again, e := postings.Pack(back); again != s || e != api.OK {
		t.Fatalf("% .100x was unpacked; packed: % .100x, %v", s, again, e)
	}
	if all := gathered(s, 0); !same(all, l) || postings.Count(s) != len(all) {
		t.Fatalf("From(% .100x, 0): %s; want %s", s, short(all), short(l))
	}
	for i := range l {
		for doc, left := range map[int][]api.Posting{l[i].Doc: l[i:], l[i].Doc + 1: l[i+1:]} {
			holdFrom(t, s, left, doc)
		}
	}
}

func TestWhatFollows(t *testing.T) {
	for _, l := range fewForFrom() {
		holdFollowing(t, l)
	}
}

func TestLongListsByChance(t *testing.T) {
	r := rand.New(rand.NewSource(4))
	for i := range 150 {
		n := r.Intn(501)
		if i%10 == 0 {
			n = 490 + r.Intn(11)
		}
		l := chosenList(r, n)
		holdRight(t, l)
		s := modelPack(l)
		for range 10 {
			holdFrom(t, s, l, r.Intn(504)-2)
		}
		if i%30 == 0 {
			holdFollowing(t, l)
		}
	}
}

func TestTheFullestList(t *testing.T) {
	var l []api.Posting
	for doc := range 500 {
		l = append(l, p(doc, places(2000, 0)...))
	}
	holdRight(t, l)
	s := modelPack(l)
	for _, doc := range []int{-1, 1, 250, 492, 499, 500} {
		holdFrom(t, s, l, doc)
	}
	wantForm(t, s[:len(s)-1])
	wantForm(t, s+"\x01")
}

// P2 to P4 of the document: nothing is written into, kept or shared.

func TestListsAreNew(t *testing.T) {
	l := row(25, 0, 3)
	for i := range l {
		l[i].Pos = places(3, i)
	}
	want := copied(l)
	s, _ := postings.Pack(l)
	first, _ := postings.Unpack(s)
	from := postings.From(s, 20)
	seen := gathered(s, 20)
	for _, other := range [][]api.Posting{l, first, seen} {
		for i := range other {
			other[i].Doc = 7
			_ = append(other[i].Pos, 99)
			for k := range other[i].Pos {
				other[i].Pos[k] = -5
			}
			for k := range other {
				if k > i && other[k].Pos[0] < 0 {
					t.Fatal("lists of one answer share", i, k)
				}
			}
		}
	}
	if x, e := postings.Unpack(s); !same(x, want) || e != api.OK {
		t.Error(short(x))
	}
	if x := leave(from, 1000); !same(x, want[7:]) {
		t.Error(short(x))
	}
	for x := range from {
		clear(x.Pos)
	}
	if x := leave(from, 1000); !same(x, want[7:]) {
		t.Error(short(x))
	}
}

// A place of one posting has no room behind it that is another one's.
func TestListsShareNothing(t *testing.T) {
	l := row(25, 0, 3)
	s := modelPack(l)
	unpacked, _ := postings.Unpack(s)
	for _, x := range [][]api.Posting{unpacked, gathered(s, 0)} {
		for i := range x {
			x[i].Pos = append(x[i].Pos, 1000, 1001, 1002)
		}
		for i := range x {
			if !slices.Equal(x[i].Pos, []int{i, 1000, 1001, 1002}) {
				t.Fatal(i, x[i])
			}
		}
	}
}

func TestWhatLiesBehindAList(t *testing.T) {
	room := append(row(10, 0, 1), p(-7, 3), p(0))
	pos := []int{1, 2, 3, -9, -9}
	room[4].Pos = pos[:3]
	holdRight(t, room[:10])
	holdList(t, room[:11])
	if !slices.Equal(pos, []int{1, 2, 3, -9, -9}) || room[10].Doc != -7 || len(room[10].Pos) != 1 || room[11].Doc != 0 {
		t.Error(pos, room[10:])
	}
}

func TestTheSameAgain(t *testing.T) {
	r := rand.New(rand.NewSource(5))
	for range 20 {
		l := chosenList(r, r.Intn(60))
		first, _ := postings.Pack(l)
		postings.Pack(row(30, 0, 1))
		postings.Unpack("\x01")
		for range postings.From(first, 100) {
			break
		}
		second, _ := postings.Pack(l)
		if first != second {
			t.Error(short(l))
		}
		holdRight(t, l)
	}
}

// The document's examples

func TestExamples(t *testing.T) {
	l := []api.Posting{p(0, 1, 4), p(3, 0)}
	wantBytes(t, l, 2, 1, 2, 2, 3, 3, 1, 1)
	if x := gathered("\x02\x01\x02\x02\x03\x03\x01\x01", 1); !same(x, []api.Posting{p(3, 0)}) {
		t.Error(x)
	}
	wantBytes(t, nil, 0)
	if x, e := postings.Unpack("\x01\x01\x00"); len(x) != 0 || e != api.ErrForm {
		t.Error(x, e)
	}
}
