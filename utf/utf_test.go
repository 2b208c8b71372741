package utf_test

import (
	"math"
	"math/rand"
	"slices"
	"strings"
	"testing"

	"codex/utf"
)

func wantRune(t *testing.T, s string, r, n int) {
	t.Helper()
	if x, y := utf.Rune(s); x != r || y != n {
		t.Errorf("Rune(%q): %#x, %d; want %#x, %d", s, x, y, r, n)
	}
}

func wantValid(t *testing.T, s string, ok bool) {
	t.Helper()
	if x := utf.Valid(s); x != ok {
		t.Errorf("Valid(%q): %v; want %v", s, x, ok)
	}
}

// edgeBytes are edges, and their bytes written down by hand.
func edgeBytes() map[int]string {
	return map[int]string{
		0: "\x00", 'a': "a", 0x7F: "\x7f",
		0x80: "\xc2\x80", 0xE9: "\xc3\xa9", 0x7FF: "\xdf\xbf",
		0x800: "\xe0\xa0\x80", 0x4E2D: "\xe4\xb8\xad", 0xD7FF: "\xed\x9f\xbf", 0xE000: "\xee\x80\x80", 0xFFFD: "\xef\xbf\xbd", 0xFFFF: "\xef\xbf\xbf",
		0x10000: "\xf0\x90\x80\x80", 0x10348: "\xf0\x90\x8d\x88", 0x10FFFF: "\xf4\x8f\xbf\xbf",
	}
}

// R1

func TestRuneOfNothing(t *testing.T) {
	wantRune(t, "", -1, 0)
	wantRune(t, "abc"[3:], -1, 0)
	wantValid(t, "", true)
	wantValid(t, "\xff"[1:], true)
}

func TestRuneOfEdges(t *testing.T) {
	for r, s := range edgeBytes() {
		wantRune(t, s, r, len(s))
		wantValid(t, s, true)
		for _, beside := range neighbours() {
			wantRune(t, s+beside, r, len(s))
			wantRune(t, (beside + s)[len(beside):], r, len(s))
		}
		wantValid(t, "aé"+s+"中", true)
		wantValid(t, s+s+s, true)
		wantValid(t, s+"\x80", false)
		wantValid(t, s+"\xff"+s, false)
		wantValid(t, "\xc3"+s, false)
	}
}

func TestRuneOfNone(t *testing.T) {
	for _, s := range []string{
		"\x80", "\xbf", "\xc0", "\xc1", "\xf5", "\xff", // first bytes of none
		"\x80\x80", "\xbf\xbf", "\xf5\x80\x80\x80", "\xff\xff\xff\xff", "\xf8\x88\x80\x80\x80", "\xfc\x84\x80\x80\x80\x80",
		"\xc0\x80", "\xc1\xbf", "\xe0\x80\x80", "\xe0\x9f\xbf", "\xf0\x80\x80\x80", "\xf0\x8f\xbf\xbf", // more bytes than are needed
		"\xed\xa0\x80", "\xed\xaf\xbf", "\xed\xb0\x80", "\xed\xbf\xbf", "\xed\xa0\xbd\xed\xb8\x80", // 0xD800 to 0xDFFF
		"\xf4\x90\x80\x80", "\xf4\xbf\xbf\xbf", "\xf7\xbf\xbf\xbf", // 0x110000 and beyond
		"\xc3", "\xe4", "\xe4\xb8", "\xf0", "\xf0\x90", "\xf0\x90\x8d", "\xf4\x8f\xbf", // cut short
		"\xc3(", "\xc3\xc3", "\xc3\x7f", "\xc3\xc0", "\xe4\x7f\xad", "\xe4\xc0\xad", "\xe4\xb8\x7f", "\xe4\xb8\xc0",
		"\xf0\x7f\x8d\x88", "\xf0\xc0\x8d\x88", "\xf0\x90\x7f\x88", "\xf0\x90\xc0\x88", "\xf0\x90\x8d\x7f", "\xf0\x90\x8d\xc0",
	} {
		wantRune(t, s, -1, 1)
		wantRune(t, s+"(", -1, 1)
		wantValid(t, s, false)
		wantValid(t, s+"a", false)
		wantValid(t, "a"+s, false)
	}
}

func TestEachFirstByte(t *testing.T) {
	for c := range 256 {
		s := string([]byte{byte(c)})
		if c < 0x80 {
			wantRune(t, s, c, 1)
		} else {
			wantRune(t, s, -1, 1)
		}
		wantValid(t, s, c < 0x80)
		starts := c < 0x80 || c >= 0xC2 && c <= 0xF4
		some := false
		for _, rest := range []string{"", "\x80", "\x90\x80", "\xa0\x80", "\x80\x80\x80", "\x90\x80\x80"} {
			r, _ := utf.Rune(s + rest)
			some = some || r != -1
		}
		if some != starts {
			t.Errorf("a rune's bytes begin with %q: %v; want %v", s, some, starts)
		}
	}
}

// A text that was cut does not tell of the bytes that lie behind it.
func TestRuneOfCutTexts(t *testing.T) {
	for _, s := range edgeBytes() {
		for n := 1; n < len(s); n++ {
			wantRune(t, s[:n], -1, 1)
			wantValid(t, s[:n], false)
			if l := told(utf.Runes(s[:n])); len(l) != n {
				t.Errorf("Runes(%q): %x; want %d", s[:n], l, n)
			}
		}
	}
}

func TestTextsOfFewBytes(t *testing.T) {
	folds := modelFolds()
	for i := range 256 {
		hold(t, string([]byte{byte(i)}), folds)
		for k := range 256 {
			hold(t, string([]byte{byte(i), byte(k)}), folds)
		}
	}
}

func TestTextsOfEdgeBytes(t *testing.T) {
	folds := modelFolds()
	edges := []byte{0, 0x41, 0x7F, 0x80, 0x8F, 0x90, 0x9F, 0xA0, 0xBF, 0xC0, 0xC3, 0xED, 0xFF}
	firsts := append([]byte{0x41, 0x7F, 0x80, 0xBF, 0xC1, 0xC2, 0xDF}, 0xE0, 0xE1, 0xEC, 0xED, 0xEE, 0xEF, 0xF0, 0xF1, 0xF3, 0xF4, 0xF5, 0xFF)
	for _, a := range firsts {
		for _, b := range edges {
			for _, c := range edges {
				hold(t, string([]byte{a, b, c}), folds)
				for _, d := range edges {
					hold(t, string([]byte{a, b, c, d}), folds)
					hold(t, string([]byte{a, b, c, d, 0x80}), folds)
				}
			}
		}
	}
}

func TestBadTextsBesideOthers(t *testing.T) {
	folds := modelFolds()
	for _, s := range badTexts() {
		wantRune(t, s, -1, 1)
		for _, x := range neighbours() {
			for _, y := range neighbours() {
				hold(t, x+s+y, folds)
			}
		}
	}
}

func TestEdgeRunesBesideOthers(t *testing.T) {
	folds := modelFolds()
	for _, r := range edgeRunes() {
		s := modelBytes(r)
		wantRune(t, s, r, len(s))
		for _, x := range neighbours() {
			for _, y := range neighbours() {
				hold(t, x+s+y, folds)
			}
		}
	}
}

// R2

func wantRunes(t *testing.T, s string, want ...spot) {
	t.Helper()
	if l := told(utf.Runes(s)); !slices.Equal(l, want) {
		t.Errorf("Runes(%q): %x; want %x", s, l, want)
	}
}

func TestRunes(t *testing.T) {
	wantRunes(t, "")
	wantRunes(t, "a", spot{0, 'a'})
	wantRunes(t, "aé中\U00010348z", spot{0, 'a'}, spot{1, 0xE9}, spot{3, 0x4E2D}, spot{6, 0x10348}, spot{10, 'z'})
	wantRunes(t, "\xff", spot{0, -1})
	wantRunes(t, "\xe2\x82", spot{0, -1}, spot{1, -1})
	wantRunes(t, "\xed\xa0\x80", spot{0, -1}, spot{1, -1}, spot{2, -1})
	wantRunes(t, "a\xffé\xe2\x82b", spot{0, 'a'}, spot{1, -1}, spot{2, 0xE9}, spot{4, -1}, spot{5, -1}, spot{6, 'b'})
	wantRunes(t, "\xef\xbf\xbd\xef\xbf", spot{0, 0xFFFD}, spot{3, -1}, spot{4, -1})
	wantRunes(t, "\xf0\x90\x8d\xc3\xa9", spot{0, -1}, spot{1, -1}, spot{2, -1}, spot{3, 0xE9})
	wantRunes(t, "\x00\x00", spot{0, 0}, spot{1, 0})
}

// somewhat are texts to be gone over: valid ones, and such that are not.
func somewhat() []string {
	return []string{
		"", "a", "abc", "aé中\U00010348z", "\xff", "\x80\x80\x80", "a\xffé\xe2\x82b", "\xef\xbf\xbd\xef\xbf", "\xf0\x90\x8d", "é\xc3",
		strings.Repeat("é中", 20) + "\xe4\xb8" + strings.Repeat("\U00010348", 5),
	}
}

func TestRunesAreLeft(t *testing.T) {
	for _, s := range somewhat() {
		want := modelRunes(s)
		seq := utf.Runes(s)
		for n := range len(want) {
			var l []spot
			for at, r := range seq {
				l = append(l, spot{at, r})
				if len(l) == n+1 {
					break
				}
			}
			if !slices.Equal(l, want[:n+1]) {
				t.Errorf("Runes(%q), left at its number %d: %x; want %x", s, n, l, want[:n+1])
			}
			if l = told(seq); !slices.Equal(l, want) {
				t.Errorf("Runes(%q), gone over behind one that was left: %x; want %x", s, l, want)
			}
		}
	}
}

// What is left asks no more: not once again behind the time when it was told to end.
func TestRunesAskNoMore(t *testing.T) {
	for _, s := range somewhat() {
		all := len(modelRunes(s))
		for n := 1; n <= all+1; n++ {
			asked := 0
			utf.Runes(s)(func(int, int) bool {
				asked++
				return asked < n
			})
			if asked != min(n, all) {
				t.Errorf("Runes(%q), left at the time %d: asked %d times", s, n, asked)
			}
		}
	}
}

func TestRunesWithinRunes(t *testing.T) {
	for _, s := range somewhat() {
		want := modelRunes(s)
		seq := utf.Runes(s)
		var outer []spot
		for at, r := range seq {
			outer = append(outer, spot{at, r})
			if l := told(seq); !slices.Equal(l, want) {
				t.Errorf("Runes(%q), gone over within itself: %x; want %x", s, l, want)
			}
		}
		if !slices.Equal(outer, want) {
			t.Errorf("Runes(%q), about itself: %x; want %x", s, outer, want)
		}
	}
}

// R3

func wantAppend(t *testing.T, s string, r int, want string) {
	t.Helper()
	if x := utf.Append(s, r); x != want {
		t.Errorf("Append(%q, %#x): %q; want %q", s, r, x, want)
	}
}

// starts are texts to which something is appended.
func starts() []string {
	return []string{"", "a", "é中\U00010348", "\xef\xbf\xbd", "\xff", "\xc3", "\xe4\xb8", "\xf0\x90\x8d", "a\x80", strings.Repeat("é", 500)}
}

func TestAppendOfEdges(t *testing.T) {
	for r, s := range edgeBytes() {
		for _, x := range starts() {
			wantAppend(t, x, r, x+s)
		}
	}
	for _, r := range edgeRunes() {
		for _, x := range starts() {
			wantAppend(t, x, r, x+modelBytes(r))
		}
	}
}

func TestAppendOfNoRunes(t *testing.T) {
	for _, r := range noRunes() {
		for _, x := range starts() {
			wantAppend(t, x, r, x+"\xef\xbf\xbd")
		}
	}
}

func TestAppendInARow(t *testing.T) {
	s := ""
	for _, r := range []int{'a', 0xE9, -1, 0x4E2D, 0x10348, math.MaxInt, 0} {
		s = utf.Append(s, r)
	}
	if want := "a\xc3\xa9\xef\xbf\xbd\xe4\xb8\xad\xf0\x90\x8d\x88\xef\xbf\xbd\x00"; s != want {
		t.Errorf("%q; want %q", s, want)
	}
}

// R1 and R3, of all numbers about the runes.

func TestAllRunes(t *testing.T) {
	for r := -1; r <= mostRune+1; r++ {
		s := utf.Append("", r)
		if want := modelAppend("", r); s != want {
			t.Fatalf("Append of %#x to nothing: %q; want %q", r, s, want)
		}
		want := r
		if !modelIsRune(r) {
			want = 0xFFFD
		}
		if x, n := utf.Rune(s); x != want || n != len(s) {
			t.Fatalf("Rune of Append(%#x): %#x, %d", r, x, n)
		}
		if x, n := utf.Rune(s + "\xbf"); x != want || n != len(s) {
			t.Fatalf("Rune of Append(%#x) and a byte: %#x, %d", r, x, n)
		}
		if x, n := utf.Rune(s[:len(s)-1]); x != -1 || n != min(1, len(s)-1) {
			t.Fatalf("Rune of Append(%#x) cut short: %#x, %d", r, x, n)
		}
		if !utf.Valid(s) || utf.Valid(s+"\xbf") {
			t.Fatalf("Valid of Append(%#x)", r)
		}
	}
}

// R4

func TestKindsAreNumbers(t *testing.T) {
	if utf.Other != 0 || utf.Letter != 1 || utf.Digit != 2 || utf.Space != 3 {
		t.Error(utf.Other, utf.Letter, utf.Digit, utf.Space)
	}
}

func wantKind(t *testing.T, kind int, runes ...int) {
	t.Helper()
	for _, r := range runes {
		if k := utf.Kind(r); k != kind {
			t.Errorf("Kind(%#x): %d; want %d", r, k, kind)
		}
	}
}

func TestKindOfLetters(t *testing.T) {
	wantKind(t, utf.Letter, 'A', 'M', 'Z', 'a', 'm', 'z', 0xAA, 0xB5, 0xBA)
	wantKind(t, utf.Letter, 0xC0, 0xD6, 0xD8, 0xDF, 0xF6, 0xF8, 0x100, 0x24F)
	wantKind(t, utf.Letter, 0x370, 0x374, 0x376, 0x377, 0x37A, 0x37D, 0x37F, 0x386, 0x388, 0x38A, 0x38C, 0x38E, 0x3A1, 0x3A3, 0x3F5, 0x3F7, 0x3FF)
	wantKind(t, utf.Letter, 0x400, 0x481, 0x48A, 0x52F, 0x531, 0x556, 0x561, 0x587, 0x5D0, 0x5EA)
	wantKind(t, utf.Letter, 0x4E00, 0x4E01, 0x9FFE, 0x9FFF, 0xAC00, 0xAC01, 0xD7A2, 0xD7A3)
}

func TestKindOfDigits(t *testing.T) {
	wantKind(t, utf.Digit, '0', '1', '8', '9', 0x660, 0x665, 0x669, 0x966, 0x96A, 0x96F)
}

func TestKindOfSpaces(t *testing.T) {
	wantKind(t, utf.Space, 9, 10, 11, 12, 13, 32, 0x85, 0xA0, 0x2000, 0x2001, 0x2009, 0x200A, 0x2028, 0x2029, 0x3000)
}

func TestKindOfOthers(t *testing.T) {
	wantKind(t, utf.Other, 0, 8, 14, 31, 33, '-', '_', '/', ':', '@', '[', '`', '{', 0x7F)
	wantKind(t, utf.Other, 0x84, 0x86, 0x9F, 0xA1, 0xA9, 0xAB, 0xB4, 0xB6, 0xB9, 0xBB, 0xBF, 0xD7, 0xF7, 0x250, 0x36F)
	wantKind(t, utf.Other, 0x375, 0x378, 0x379, 0x37E, 0x380, 0x381, 0x384, 0x385, 0x387, 0x38B, 0x38D, 0x3A2, 0x3F6)
	wantKind(t, utf.Other, 0x482, 0x483, 0x488, 0x489, 0x530, 0x557, 0x560, 0x588, 0x5CF, 0x5EB, 0x65F, 0x66A, 0x965, 0x970)
	wantKind(t, utf.Other, 0x1FFF, 0x200B, 0x2027, 0x202A, 0x2FFF, 0x3001, 0x4DFF, 0xA000, 0xABFF, 0xD7A4, 0xD7FF)
	wantKind(t, utf.Other, 0xE000, 0xFFFD, 0xFFFF, 0x10000, 0x1F600, 0x10FFFF)
}

func TestKindOfNoRunes(t *testing.T) {
	wantKind(t, utf.Other, noRunes()...)
}

func TestKindOfAllRunes(t *testing.T) {
	kinds := modelKinds()
	wantKind(t, utf.Other, -1)
	for r := 0; r <= mostRune+1; r++ {
		if k := utf.Kind(r); k != kinds[r] {
			t.Errorf("Kind(%#x): %d; want %d", r, k, kinds[r])
		}
	}
}

// R5

func wantFold(t *testing.T, r, want int) {
	t.Helper()
	if x := utf.Fold(r); x != want {
		t.Errorf("Fold(%#x): %#x; want %#x", r, x, want)
	}
}

func TestFoldOfEdges(t *testing.T) {
	for r, want := range map[int]int{
		'A': 'a', 'B': 'b', 'Z': 'z', 0xC0: 0xE0, 0xD6: 0xF6, 0xD8: 0xF8, 0xDE: 0xFE,
		0x391: 0x3B1, 0x3A1: 0x3C1, 0x3A3: 0x3C3, 0x3A9: 0x3C9, 0x3C2: 0x3C3,
		0x400: 0x450, 0x40F: 0x45F, 0x410: 0x430, 0x42F: 0x44F, 0x531: 0x561, 0x556: 0x586,
		0x100: 0x101, 0x102: 0x103, 0x12E: 0x12F, 0x14A: 0x14B, 0x176: 0x177, 0x460: 0x461, 0x480: 0x481,
		0x48A: 0x48B, 0x4BE: 0x4BF, 0x4D0: 0x4D1, 0x52E: 0x52F,
		0x139: 0x13A, 0x147: 0x148, 0x179: 0x17A, 0x17D: 0x17E,
	} {
		wantFold(t, r, want)
	}
}

func TestFoldOfOthers(t *testing.T) {
	for _, r := range []int{
		0, 32, '0', '9', '@', '[', '`', 'a', 'z', '{', 0xAA, 0xBF, 0xD7, 0xDF, 0xE0, 0xF7, 0xFE, 0xFF,
		0x101, 0x12D, 0x12F, 0x130, 0x131, 0x132, 0x138, 0x13A, 0x146, 0x148, 0x149, 0x14B, 0x177, 0x178, 0x17A, 0x17E, 0x17F, 0x180, 0x24E,
		0x370, 0x376, 0x386, 0x38F, 0x390, 0x3A2, 0x3AA, 0x3AB, 0x3B1, 0x3C1, 0x3C3, 0x3C9, 0x3CF, 0x3D8,
		0x430, 0x44F, 0x450, 0x45F, 0x461, 0x481, 0x482, 0x484, 0x488, 0x489, 0x48B, 0x4BF, 0x4C0, 0x4C1, 0x4CE, 0x4CF, 0x4D1, 0x52F, 0x530,
		0x557, 0x558, 0x561, 0x586, 0x5D0, 0x660, 0x10A0, 0x1E00, 0x2160, 0x4E2D, 0xAC00, 0xFF21, 0xFFFD, 0x10400, 0x10FFFF,
	} {
		wantFold(t, r, r)
	}
}

func TestFoldOfNoRunes(t *testing.T) {
	for _, r := range noRunes() {
		wantFold(t, r, r)
	}
}

func TestFoldOfAllRunes(t *testing.T) {
	folds := modelFolds()
	wantFold(t, -1, -1)
	for r := 0; r <= mostRune+1; r++ {
		if x := utf.Fold(r); x != folds[r] {
			t.Errorf("Fold(%#x): %#x; want %#x", r, x, folds[r])
		}
	}
}

func TestFoldedTexts(t *testing.T) {
	for s, want := range map[string]string{
		"": "", "abc": "abc", "AbZ[@": "abz[@", "ÄÖ Σς Ж": "äö σσ ж", "ÀÞ×ß÷": "àþ×ß÷", "ΑΡΩ": "αρω",
		"ЀЏАЯ": "ѐџая", "ĀāĮŹŸ": "āāįźŸ", "ԱՖՙ": "աֆՙ", "中文 한글 १ ٠": "中文 한글 १ ٠", "\U00010400A": "\U00010400a",
		"\xff": "\xff", "A\xffÉ\xc3": "a\xffé\xc3", "\xc3A": "\xc3a", "\xe4\xb8Σ": "\xe4\xb8σ", "\xc3\x89\x89": "\xc3\xa9\x89",
		"\xc1\x81": "\xc1\x81", "\xed\xa0\x80Z": "\xed\xa0\x80z", "�A": "�a", "\x00A\x00": "\x00a\x00",
	} {
		if x := utf.Folded(s); x != want {
			t.Errorf("Folded(%q): %q; want %q", s, x, want)
		}
	}
}

func TestFoldedOfEachRune(t *testing.T) {
	folds := modelFolds()
	for r := 0; r <= mostRune; r++ {
		if modelIsRune(r) {
			s := modelBytes(r)
			if x, want := utf.Folded("É"+s+"\x80Z"), "é"+modelBytes(folds[r])+"\x80z"; x != want {
				t.Fatalf("Folded of %#x among others: %q; want %q", r, x, want)
			}
		}
	}
}

// R6

func TestAppendedIsLast(t *testing.T) {
	some := append(noRunes(), edgeRunes()...)
	for r := range 0x600 {
		some = append(some, r)
	}
	for _, x := range starts() {
		for _, r := range some {
			s := utf.Append(x, r)
			if utf.Valid(s) != utf.Valid(x) {
				t.Errorf("Valid of Append(%q, %#x): %v", x, r, utf.Valid(s))
			}
			l := told(utf.Runes(s))
			last := r
			if !modelIsRune(r) {
				last = 0xFFFD
			}
			if end := l[len(l)-1]; end != (spot{len(x), last}) {
				t.Errorf("the last rune of Append(%q, %#x): %#x at %d", x, r, end.r, end.at)
			}
		}
	}
}

func TestFoldOfFold(t *testing.T) {
	for r := -1; r <= mostRune+1; r++ {
		x := utf.Fold(r)
		if utf.Fold(x) != x || utf.Kind(x) != utf.Kind(r) {
			t.Fatalf("of %#x, folded %#x: folded again %#x, Kind %d, Kind of it folded %d", r, x, utf.Fold(x), utf.Kind(r), utf.Kind(x))
		}
	}
}

func TestChosenTexts(t *testing.T) {
	r := rand.New(rand.NewSource(10))
	folds := modelFolds()
	valid := 0
	for range 20000 {
		s := chosenText(r, r.Intn(1+r.Intn(60)))
		hold(t, s, folds)
		if utf.Valid(s) {
			valid++
		}
		holdFolded(t, s)
		holdAppended(t, s)
	}
	if valid < 4000 || valid > 16000 {
		t.Errorf("of 20000 texts %d are valid: too few of one kind", valid)
	}
}

func TestLongTexts(t *testing.T) {
	r := rand.New(rand.NewSource(11))
	folds := modelFolds()
	for range 20 {
		s := chosenText(r, 20000)
		hold(t, s, folds)
		holdFolded(t, s)
		s = strings.ToValidUTF8(s, "É")
		wantValid(t, s, true)
		hold(t, s, folds)
		holdFolded(t, s)
	}
	for _, s := range []string{"a", "Z", "\xff", "\x80", "é", "Σ", "\xe4\xb8", "中", "\U00010348", "\xf4\x90\x80\x80"} {
		s = strings.Repeat(s, 100000)
		hold(t, s, folds)
		holdFolded(t, s)
	}
}

// holdFolded holds what R6 says of a text that is folded.
func holdFolded(t *testing.T, s string) {
	t.Helper()
	x := utf.Folded(s)
	if y := utf.Folded(x); y != x {
		t.Fatalf("Folded(%q): %q, folded again %q", s, x, y)
	}
	if utf.Valid(s) && !utf.Valid(x) {
		t.Fatalf("Folded(%q): %q, which is not valid", s, x)
	}
	before, after := told(utf.Runes(s)), told(utf.Runes(x))
	if len(before) != len(after) {
		t.Fatalf("Folded(%q): %q, of other runes", s, x)
	}
	for i, y := range before {
		if z := after[i]; y.r == -1 && z.r != -1 || y.r != -1 && z.r != utf.Fold(y.r) {
			t.Fatalf("Folded(%q): %q, whose number %d is %#x", s, x, i, z.r)
		}
	}
}

// holdAppended puts a text together again, rune by rune.
func holdAppended(t *testing.T, s string) {
	t.Helper()
	again, want := "", ""
	for at, r := range utf.Runes(s) {
		again = utf.Append(again, r)
		if r == -1 {
			want += "\xef\xbf\xbd"
		} else {
			want += s[at:][:modelSize(r)]
		}
	}
	if again != want || !utf.Valid(again) || utf.Valid(s) && again != s {
		t.Fatalf("%q, put together again: %q; want %q", s, again, want)
	}
}

// P4

func TestTheSameAgain(t *testing.T) {
	for range 3 {
		wantRune(t, "é", 0xE9, 2)
		wantRune(t, "\xff", -1, 1)
		wantKind(t, utf.Letter, 'A', 0xD7A3)
		wantKind(t, utf.Other, '-')
		wantFold(t, 0x3C2, 0x3C3)
		wantAppend(t, "a", 0xE9, "aé")
	}
}

// The document's examples.

func TestExamples(t *testing.T) {
	wantRune(t, "é", 0xE9, 2)
	wantRune(t, "\xc3\x28", -1, 1)
	wantRune(t, "\xed\xa0\x80", -1, 1)
	wantRune(t, "", -1, 0)
	wantKind(t, utf.Letter, 'a', 0x4E2D)
	wantKind(t, utf.Digit, '7', 0x660)
	wantKind(t, utf.Space, ' ')
	wantKind(t, utf.Other, '-')
	if s := utf.Folded("ÄÖ Σς Ж"); s != "äö σσ ж" {
		t.Errorf("%q", s)
	}
}
