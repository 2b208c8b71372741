package utf_test

import (
	"iter"
	"math"
	"math/rand"
	"slices"
	"strings"
	"testing"

	"codex/utf"
)

// The document's words, written down without the package's own code, and without the library's.

const mostRune = 0x10FFFF

func modelIsRune(r int) bool {
	return r >= 0 && r < 0xD800 || r > 0xDFFF && r <= mostRune
}

// modelWritten is a number's bytes as the section Words says, also of a number below 0x200000 that is no rune; in so many bytes, be they more than it needs.
func modelWritten(r, size int) string {
	if size == 1 {
		return string([]byte{byte(r)})
	}
	b := make([]byte, size)
	for i := size - 1; i > 0; i-- {
		b[i] = byte(0x80 + r%64)
		r /= 64
	}
	b[0] = byte([]int{0xC0, 0xE0, 0xF0}[size-2] + r)
	return string(b)
}

// modelSize is how many bytes a number needs.
func modelSize(r int) int {
	switch {
	case r < 0x80:
		return 1
	case r < 0x800:
		return 2
	case r < 0x10000:
		return 3
	}
	return 4
}

func modelBytes(r int) string { return modelWritten(r, modelSize(r)) }

// modelRead is the number of the bits of s, if these are a rune's bytes as to their form.
func modelRead(s string) int {
	if len(s) == 1 {
		return int(s[0])
	}
	r := int(s[0]) % []int{32, 16, 8}[len(s)-2]
	for i := 1; i < len(s); i++ {
		r = 64*r + int(s[i])%64
	}
	return r
}

func modelRune(s string) (int, int) {
	for n := 1; n <= min(4, len(s)); n++ {
		if r := modelRead(s[:n]); modelIsRune(r) && modelBytes(r) == s[:n] {
			return r, n
		}
	}
	return -1, min(1, len(s))
}

// spot is what Runes tells at a time.
type spot struct{ at, r int }

func modelRunes(s string) []spot {
	var l []spot
	for at := 0; at < len(s); {
		r, n := modelRune(s[at:])
		l = append(l, spot{at, r})
		at += n
	}
	return l
}

func modelValid(s string) bool {
	for s != "" {
		r, n := modelRune(s)
		if r == -1 {
			return false
		}
		s = s[n:]
	}
	return true
}

func modelAppend(s string, r int) string {
	if !modelIsRune(r) {
		return s + "\xef\xbf\xbd"
	}
	return s + modelBytes(r)
}

// span is the runes from one to another.
type span struct{ first, last int }

func one(r int) span { return span{r, r} }

// What R4 says, word for word: runs, and what they are without.

func modelLetters() (runs, but []span) {
	runs = []span{
		{'A', 'Z'}, {'a', 'z'}, one(0xAA), one(0xB5), one(0xBA), {0xC0, 0x24F}, {0x370, 0x3FF}, {0x400, 0x52F},
		{0x531, 0x556}, {0x561, 0x587}, {0x5D0, 0x5EA}, {0x4E00, 0x9FFF}, {0xAC00, 0xD7A3},
	}
	but = []span{
		one(0xD7), one(0xF7),
		one(0x375), one(0x37E), one(0x378), one(0x379), {0x380, 0x385}, one(0x387), one(0x38B), one(0x38D), one(0x3A2), one(0x3F6),
		{0x482, 0x489},
	}
	return runs, but
}

func modelDigits() []span { return []span{{'0', '9'}, {0x660, 0x669}, {0x966, 0x96F}} }

func modelSpaces() []span {
	return []span{{9, 13}, one(32), one(0x85), one(0xA0), {0x2000, 0x200A}, one(0x2028), one(0x2029), one(0x3000)}
}

// modelKinds is the Kind of each number from 0 to 0x110000.
func modelKinds() []int {
	kinds := make([]int, mostRune+2)
	paint := func(kind int, l []span) {
		for _, x := range l {
			for r := x.first; r <= x.last; r++ {
				kinds[r] = kind
			}
		}
	}
	letters, but := modelLetters()
	paint(1, letters)
	paint(0, but)
	paint(2, modelDigits())
	paint(3, modelSpaces())
	return kinds
}

// foldRun is one of R5's sentences: runes, and how much further on they fold: all of them, those that are even, or those that are odd.
type foldRun struct {
	span
	by   int
	left int // what 2 leaves of those that are folded; -1 of all
}

func modelFoldRuns() (runs []foldRun, but []int) {
	runs = []foldRun{
		{span{'A', 'Z'}, 32, -1}, {span{0xC0, 0xDE}, 32, -1}, {span{0x410, 0x42F}, 32, -1},
		{span{0x391, 0x3A9}, 32, -1}, {one(0x3C2), 1, -1}, {span{0x400, 0x40F}, 80, -1},
		{span{0x100, 0x12F}, 1, 0}, {span{0x14A, 0x177}, 1, 0}, {span{0x460, 0x481}, 1, 0}, {span{0x48A, 0x4BF}, 1, 0}, {span{0x4D0, 0x52F}, 1, 0},
		{span{0x139, 0x148}, 1, 1}, {span{0x179, 0x17E}, 1, 1},
		{span{0x531, 0x556}, 48, -1},
	}
	return runs, []int{0xD7, 0x3A2}
}

// modelFolds is the Fold of each number from 0 to 0x110000.
func modelFolds() []int {
	folds := make([]int, mostRune+2)
	for r := range folds {
		folds[r] = r
	}
	runs, but := modelFoldRuns()
	for _, x := range runs {
		for r := x.first; r <= x.last; r++ {
			if x.left == -1 || r%2 == x.left {
				folds[r] = r + x.by
			}
		}
	}
	for _, r := range but {
		folds[r] = r
	}
	return folds
}

func modelFolded(s string, folds []int) string {
	var b strings.Builder
	for _, x := range modelRunes(s) {
		if x.r == -1 {
			b.WriteByte(s[x.at])
		} else {
			b.WriteString(modelBytes(folds[x.r]))
		}
	}
	return b.String()
}

// told is what goes over a text, all of it.
func told(seq iter.Seq2[int, int]) []spot {
	var l []spot
	for at, r := range seq {
		l = append(l, spot{at, r})
	}
	return l
}

// hold holds all that is told of a text against the model.
func hold(t *testing.T, s string, folds []int) {
	t.Helper()
	wantR, wantN := modelRune(s)
	if r, n := utf.Rune(s); r != wantR || n != wantN {
		t.Fatalf("Rune(%q): %#x, %d; want %#x, %d", s, r, n, wantR, wantN)
	}
	if ok, want := utf.Valid(s), modelValid(s); ok != want {
		t.Fatalf("Valid(%q): %v; want %v", s, ok, want)
	}
	if l, want := told(utf.Runes(s)), modelRunes(s); !slices.Equal(l, want) {
		t.Fatalf("Runes(%q): %x; want %x", s, l, want)
	}
	if x, want := utf.Folded(s), modelFolded(s, folds); x != want {
		t.Fatalf("Folded(%q): %q; want %q", s, x, want)
	}
}

// noRunes are numbers that are no runes.
func noRunes() []int {
	l := []int{
		-1, -2, -0x80, -0xD7FF, -0x110000, math.MinInt32, math.MinInt32 - 1, math.MinInt, math.MinInt + 1, math.MinInt + 'A',
		0xD800, 0xD801, 0xDABC, 0xDBFF, 0xDC00, 0xDFFE, 0xDFFF, 0x110000, 0x110001, 0x1FFFFF, 0x200000, 0xFFFFFF,
		math.MaxInt32, math.MaxInt32 + 1, math.MaxUint32, math.MaxInt - 1, math.MaxInt,
	}
	// Of these the lowest 32, 16 or 8 bits alone would be a rune's.
	for _, low := range []int{0, 'A', 'a', '0', ' ', 0xC0, 0xC4, 0x391, 0x3C2, 0x4E2D, 0xFFFD, 0x10000, 0x10FFFF} {
		l = append(l, 1<<32+low, 1<<33+low, 1<<62+low, -1<<32+low, math.MinInt+low)
		l = append(l, 0x110000+low, 0x7FFF0000|low, -1<<16+low&0xFF, -1<<8+low&0xFF)
	}
	return l
}

// edgeRunes are those at which a rune takes a byte more, the least, the greatest, and those about the gap.
func edgeRunes() []int {
	return []int{0, 1, 'x', 0x7E, 0x7F, 0x80, 0x81, 0xFF, 0x100, 0x7FE, 0x7FF, 0x800, 0x801, 0xFFF, 0x1000, 0xD7FE, 0xD7FF, 0xE000, 0xE001, 0xFFFC, 0xFFFD, 0xFFFE, 0xFFFF, 0x10000, 0x10001, 0x3FFFF, 0x40000, 0xFFFFF, 0x100000, 0x10FFFE, 0x10FFFF}
}

// badTexts are bytes that no rune begins with.
func badTexts() []string {
	var l []string
	for c := 0x80; c <= 0xC1; c++ {
		l = append(l, string([]byte{byte(c)}), string([]byte{byte(c), 0x80}), string([]byte{byte(c), 0xBF}))
	}
	for c := 0xF5; c <= 0xFF; c++ {
		l = append(l, string([]byte{byte(c)}), string([]byte{byte(c), 0x80, 0x80, 0x80}), string([]byte{byte(c), 0xBF, 0xBF, 0xBF, 0xBF, 0xBF}))
	}
	for _, r := range []int{0, 1, '/', 'A', 0x40, 0x7F, 0x80, 0xFF, 0x7FF, 0x800, 0xD7FF, 0xE000, 0xFFFF} {
		for size := modelSize(r) + 1; size <= 4; size++ {
			l = append(l, modelWritten(r, size))
		}
	}
	for _, r := range []int{0xD800, 0xD801, 0xDB7F, 0xDBFF, 0xDC00, 0xDFFE, 0xDFFF} {
		l = append(l, modelWritten(r, 3), modelWritten(r, 4))
	}
	for _, r := range []int{0x110000, 0x110001, 0x120000, 0x13FFFF, 0x140000, 0x1FFFFF} {
		l = append(l, modelWritten(r, 4))
	}
	for _, r := range edgeRunes() {
		l = append(l, spoilt(modelBytes(r))...)
	}
	return l
}

// spoilt are a rune's bytes, cut short at each place, and with each later one another that may not stand there.
func spoilt(s string) []string {
	var l []string
	for i := 1; i < len(s); i++ {
		l = append(l, s[:i])
		for _, c := range []byte{0, '(', 0x3F, 0x7F, 0xC0, 0xC2, 0xE2, 0xF0, 0xFF, s[i] & 0x3F, s[i] | 0x40} {
			b := []byte(s)
			b[i] = c
			l = append(l, string(b))
		}
	}
	return l
}

// neighbours are what stands ahead of something, or behind it.
func neighbours() []string {
	return []string{"", "\x00", "a", "Z", "\x7f", "\x80", "\xbf", "\xc3", "\xe4\xb8", "\xf0\x90\x8d", "\xf4\x8f", "\xff", "é", "Σ", "中", "\xef\xbf\xbd", "\U00010348", "\U0010ffff", "aé中\U00010348", "\x80\x80\x80"}
}

// chosenText is n runs of bytes by chance: of runes, of what no rune begins with, and of any bytes.
func chosenText(r *rand.Rand, n int) string {
	edges, bad := edgeRunes(), badTexts()
	evil := r.Intn(4)
	var b strings.Builder
	for range n {
		switch r.Intn(8 + evil) {
		case 0, 1:
			b.WriteString(modelBytes(edges[r.Intn(len(edges))]))
		case 2, 3, 4:
			b.WriteString(modelBytes(r.Intn(0x590)))
		case 5, 6:
			b.WriteString(modelBytes(r.Intn(0xD800)))
		case 7:
			b.WriteString(modelBytes(0x10000 + r.Intn(0x100000)))
		case 8:
			b.WriteString(bad[r.Intn(len(bad))])
		case 9:
			b.WriteByte(byte(r.Intn(256)))
		default:
			b.WriteByte(byte(0x80 + r.Intn(0x80)))
		}
	}
	return b.String()
}
