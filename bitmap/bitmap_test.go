package bitmap

import (
	"math"
	"math/rand"
	"regexp"
	"slices"
	"strings"
	"testing"

	"codex/api"
)

// rowOf is a bitmap written down bit by bit: 1 of a bit that is on, 0 of one that is off.
func rowOf(b string) string {
	var row strings.Builder
	for _, c := range []byte(b) {
		for range 8 {
			row.WriteByte('0' + c%2)
			c /= 2
		}
	}
	return row.String()
}

// textOf is the bitmap of a row.
func textOf(row string) string {
	b := make([]byte, len(row)/8)
	for i := range b {
		for k := 7; k >= 0; k-- {
			b[i] = 2*b[i] + row[8*i+k] - '0'
		}
	}
	return string(b)
}

// firstOf is of a row the first n.
func firstOf(row string, n int) string {
	switch {
	case n < 0:
		return ""
	case n > len(row):
		return row
	}
	return row[:n]
}

var noughts = regexp.MustCompile("0+")

// runsOf is what Runs is to answer of the first ones of a row.
func runsOf(row string) []api.Extent {
	var l []api.Extent
	for _, place := range noughts.FindAllStringIndex(row, -1) {
		l = append(l, api.Extent{Start: place[0], Count: place[1] - place[0]})
	}
	return l
}

// fitOf is what Fit is to answer of the first ones of a row.
func fitOf(row string, count int) (int, bool) {
	if count < 1 || count > len(row) {
		return 0, false
	}
	start := strings.Index(row, strings.Repeat("0", count))
	return max(start, 0), start >= 0
}

func chosenText(r *rand.Rand, n int) string {
	b := make([]byte, n)
	for i := range b {
		switch r.Intn(4) {
		case 0:
			b[i] = 0
		case 1:
			b[i] = 255
		default:
			b[i] = byte(r.Intn(256))
		}
	}
	return string(b)
}

// shortTexts are all texts of none, one and two bytes.
func shortTexts() []string {
	l := []string{""}
	for x := range 256 {
		l = append(l, string([]byte{byte(x)}))
	}
	for x := range 256 * 256 {
		l = append(l, string([]byte{byte(x), byte(x / 256)}))
	}
	return l
}

func wantGet(t *testing.T, b string, i int, want bool) {
	t.Helper()
	if on := Get(b, i); on != want {
		t.Errorf("Get(%.20q, %d): %v; want %v", b, i, on, want)
	}
}

func wantSet(t *testing.T, b string, start, count int, on bool, want string) {
	t.Helper()
	if s, ok := Set(b, start, count, on); s != want || !ok {
		t.Errorf("Set(%.20q, %d, %d, %v): %.20q, %v; want %.20q, true", b, start, count, on, s, ok, want)
	}
}

func wantNoSet(t *testing.T, b string, start, count int) {
	t.Helper()
	for _, on := range []bool{true, false} {
		if s, ok := Set(b, start, count, on); s != "" || ok {
			t.Errorf("Set(%.20q, %d, %d, %v): %.20q, %v; want nothing, false", b, start, count, on, s, ok)
		}
	}
}

func wantFit(t *testing.T, b string, n, count, want int) {
	t.Helper()
	if start, ok := Fit(b, n, count); start != want || !ok {
		t.Errorf("Fit(%.20q, %d, %d): %d, %v; want %d, true", b, n, count, start, ok, want)
	}
}

func wantNoFit(t *testing.T, b string, n, count int) {
	t.Helper()
	if start, ok := Fit(b, n, count); start != 0 || ok {
		t.Errorf("Fit(%.20q, %d, %d): %d, %v; want 0, false", b, n, count, start, ok)
	}
}

// wantFree asks Runs, and Free as many as they are to have.
func wantFree(t *testing.T, b string, n int, runs ...api.Extent) {
	t.Helper()
	if l := Runs(b, n); !slices.Equal(l, runs) {
		t.Errorf("Runs(%.20q, %d): %v; want %v", b, n, l, runs)
	}
	want := 0
	for _, x := range runs {
		want += x.Count
	}
	if free := Free(b, n); free != want {
		t.Errorf("Free(%.20q, %d): %d; want %d", b, n, free, want)
	}
}

func run(start, count int) api.Extent { return api.Extent{Start: start, Count: count} }

// M1

func TestMakeAtItsEdges(t *testing.T) {
	for n, want := range map[int]int{
		math.MinInt: 0, math.MinInt + 1: 0, -32768: 0, -9: 0, -8: 0, -7: 0, -1: 0, 0: 0,
		1: 1, 2: 1, 7: 1, 8: 1, 9: 2, 15: 2, 16: 2, 17: 3,
		32760: 4095, 32761: 4096, 32767: 4096, 32768: 4096,
		32769: 0, 32776: 0, 65536: 0, 1<<32 + 1: 0, math.MaxInt - 7: 0, math.MaxInt - 6: 0, math.MaxInt: 0,
	} {
		if s := Make(n); s != strings.Repeat("\x00", want) {
			t.Errorf("Make(%d): %d bytes, %.20q; want %d noughts", n, len(s), s, want)
		}
	}
}

func TestMakeOfEachNumber(t *testing.T) {
	all := strings.Repeat("\x00", 4096)
	for n := 1; n <= 32768; n++ {
		s := Make(n)
		if 8*len(s) < n || 8*len(s) >= n+8 || s != all[:len(s)] {
			t.Fatalf("Make(%d): %d bytes, %.20q", n, len(s), s)
		}
	}
}

func TestGetAtItsEdges(t *testing.T) {
	far := []int{math.MinInt, math.MinInt + 1, -1 << 32, -64, -16, -9, -8, -7, -1, 1 << 32, 1<<35 + 1, math.MaxInt - 7, math.MaxInt - 1, math.MaxInt}
	for _, b := range []string{"", "\xff", "\xff\xff", strings.Repeat("\xff", 4096)} {
		for _, i := range far {
			wantGet(t, b, i, false)
		}
		for k := range 9 {
			wantGet(t, b, 8*len(b)+k, false)
		}
		if b != "" {
			wantGet(t, b, 0, true)
			wantGet(t, b, 8*len(b)-1, true)
		}
	}
	wantGet(t, "\x00", 0, false)
	wantGet(t, "\x00", 7, false)
	wantGet(t, "\x00\x80", 15, true)
	wantGet(t, "\x80\x00", 15, false)
	wantGet(t, "\x01\x00", 0, true)
	wantGet(t, "\x00\x01", 0, false)
}

func TestGetOfEachBitAlone(t *testing.T) {
	for i := range 64 {
		b := []byte(strings.Repeat("\x00", 8))
		b[i/8] = []byte{1, 2, 4, 8, 16, 32, 64, 128}[i%8]
		for k := -2; k < 70; k++ {
			wantGet(t, string(b), k, k == i)
		}
	}
}

func TestGetOfShortTexts(t *testing.T) {
	for _, b := range shortTexts() {
		row := rowOf(b)
		for i := -2; i < 20; i++ {
			want := i >= 0 && i < len(row) && row[i] == '1'
			if Get(b, i) != want {
				t.Fatalf("Get(%q, %d): %v", b, i, !want)
			}
		}
	}
}

// M2

func TestSetOn(t *testing.T) {
	for _, c := range []struct {
		b            string
		start, count int
		want         string
	}{
		// within one byte
		{"\x00", 0, 1, "\x01"}, {"\x00", 1, 3, "\x0e"}, {"\x00", 3, 2, "\x18"}, {"\x00\x00", 9, 2, "\x00\x06"},
		// up to a byte's last bit, and from its first one on
		{"\x00", 7, 1, "\x80"}, {"\x00", 4, 4, "\xf0"}, {"\x00\x00", 5, 3, "\xe0\x00"}, {"\x00\x00", 8, 1, "\x00\x01"}, {"\x00\x00", 8, 8, "\x00\xff"},
		// across bytes
		{"\x00\x00", 7, 2, "\x80\x01"}, {"\x00\x00", 6, 4, "\xc0\x03"}, {"\x00\x00\x00", 7, 10, "\x80\xff\x01"}, {"\x00\x00\x00", 4, 12, "\xf0\xff\x00"},
		// all
		{"\x00", 0, 8, "\xff"}, {"\x00\x00\x00", 0, 24, "\xff\xff\xff"}, {"\x5a\xa5", 0, 16, "\xff\xff"},
		// some, all of which are on already
		{"\x05", 0, 3, "\x07"}, {"\xff", 2, 3, "\xff"}, {"\x81\x18", 0, 1, "\x81\x18"}, {"\x81\x18", 11, 2, "\x81\x18"},
		// the others are as they were
		{"\xa1\x14\x80", 8, 8, "\xa1\xff\x80"}, {"\xa1\x14\x80", 5, 4, "\xe1\x15\x80"},
	} {
		wantSet(t, c.b, c.start, c.count, true, c.want)
	}
}

func TestSetOff(t *testing.T) {
	for _, c := range []struct {
		b            string
		start, count int
		want         string
	}{
		{"\xff", 0, 1, "\xfe"}, {"\xff", 1, 3, "\xf1"}, {"\xff\xff", 9, 2, "\xff\xf9"},
		{"\xff", 7, 1, "\x7f"}, {"\xff\xff", 5, 3, "\x1f\xff"}, {"\xff\xff", 8, 1, "\xff\xfe"},
		{"\xff\xff", 6, 4, "\x3f\xfc"}, {"\xff\xff\xff", 7, 10, "\x7f\x00\xfe"},
		{"\xff", 0, 8, "\x00"}, {"\xff\xff\xff", 0, 24, "\x00\x00\x00"}, {"\x5a\xa5", 0, 16, "\x00\x00"},
		{"\x05", 0, 2, "\x04"}, {"\x00", 2, 3, "\x00"}, {"\x81\x18", 1, 6, "\x81\x18"},
		{"\xa1\x14\x80", 8, 8, "\xa1\x00\x80"}, {"\xa1\x15\x80", 5, 4, "\x01\x14\x80"},
	} {
		wantSet(t, c.b, c.start, c.count, false, c.want)
	}
}

func TestSetOfNoBit(t *testing.T) {
	for _, on := range []bool{true, false} {
		for _, b := range []string{"\x00", "\xff", "\xa5", "\x5a\x3c", "\x00\x00\x00"} {
			for start := 0; start <= 8*len(b); start++ {
				wantSet(t, b, start, 0, on, b)
			}
		}
		wantSet(t, "", 0, 0, on, "")
	}
	wantNoSet(t, "", 1, 0)
	wantNoSet(t, "", -1, 0)
	wantNoSet(t, "\xff", 9, 0)
	wantNoSet(t, "\xff", -1, 0)
	wantNoSet(t, "\xff", math.MaxInt, 0)
	wantNoSet(t, "\xff", math.MinInt, 0)
}

func TestSetOfBitsThatAreNotThere(t *testing.T) {
	for _, b := range []string{"", "\x00", "\xff", "\x00\xff", strings.Repeat("\x00", 4096)} {
		n := 8 * len(b)
		for start := max(0, n-20); start <= n; start++ { // only the last one is not there
			wantNoSet(t, b, start, n-start+1)
		}
		wantNoSet(t, b, 0, n+1)
		wantNoSet(t, b, n+1, 1)
		wantNoSet(t, b, n+8, 8)
		for _, below := range []int{-1, -2, -8, -1 << 32, math.MinInt + 1, math.MinInt} {
			for _, x := range []int{-1, 0, 1, 8, n, n + 1, n - below, math.MaxInt, math.MinInt, below} {
				wantNoSet(t, b, below, x)
				wantNoSet(t, b, x, below)
			}
		}
	}
}

func TestSetOfGreatNumbers(t *testing.T) {
	great := []int{1 << 31, 1 << 32, 1<<32 + 1, 1 << 35, 1 << 61, 1 << 62, math.MaxInt - 8, math.MaxInt - 7, math.MaxInt - 1, math.MaxInt}
	for _, b := range []string{"", "\x00", "\xff\xff", strings.Repeat("\x00", 4096)} {
		for _, x := range great {
			for _, y := range append([]int{0, 1, 2, 3, 7, 8, 9, 10, 16, 32768}, great...) {
				wantNoSet(t, b, x, y)
				wantNoSet(t, b, min(y, 8*len(b)), x)
				wantNoSet(t, b, y, x)
			}
		}
	}
}

func TestSetOfShortTexts(t *testing.T) {
	t.Parallel()
	for _, b := range shortTexts() {
		row := rowOf(b)
		for start := range len(row) + 1 {
			for count := range len(row) - start + 1 {
				behind := row[start+count:]
				on := textOf(row[:start] + strings.Repeat("1", count) + behind)
				if s, ok := Set(b, start, count, true); s != on || !ok {
					t.Fatalf("Set(%q, %d, %d, true): %q, %v; want %q", b, start, count, s, ok, on)
				}
				off := textOf(row[:start] + strings.Repeat("0", count) + behind)
				if s, ok := Set(b, start, count, false); s != off || !ok {
					t.Fatalf("Set(%q, %d, %d, false): %q, %v; want %q", b, start, count, s, ok, off)
				}
			}
		}
	}
}

// M3

func TestFitAtItsEdges(t *testing.T) {
	// n
	for _, n := range []int{math.MinInt, -8, -1, 0} {
		wantNoFit(t, "\x00", n, 1)
		wantNoFit(t, "\x00\x00", n, 8)
	}
	wantFit(t, "\x00", 1, 1, 0)
	wantNoFit(t, "\x00", 1, 2)
	wantFit(t, "\x00", 3, 3, 0)
	wantNoFit(t, "\x00", 3, 4)
	wantFit(t, "\x00\x00", 11, 11, 0)
	wantNoFit(t, "\x00\x00", 11, 12)
	for _, n := range []int{8, 9, 15, 16, 1 << 32, math.MaxInt - 1, math.MaxInt} {
		wantFit(t, "\x00", n, 8, 0)
		wantNoFit(t, "\x00", n, 9)
		wantFit(t, "\x7f", n, 1, 7)
		wantNoFit(t, "\x7f", n, 2)
		wantNoFit(t, "\xff", n, 1)
		wantNoFit(t, "", n, 1)
	}
	// count
	for _, count := range []int{math.MinInt, math.MinInt + 1, -8, -2, -1, 0} {
		for _, b := range []string{"", "\x00", "\xff", "\x0d", "\xf0\x0f"} {
			for _, n := range []int{-1, 0, 1, 8, 16, math.MaxInt} {
				wantNoFit(t, b, n, count)
			}
		}
	}
	for _, count := range []int{1 << 32, 1<<32 + 1, math.MaxInt - 1, math.MaxInt} {
		for _, b := range []string{"", "\x00", "\xff", "\x0d"} {
			wantNoFit(t, b, 8, count)
			wantNoFit(t, b, math.MaxInt, count)
		}
	}
}

func TestFitTakesTheFirst(t *testing.T) {
	wantFit(t, "\x0d", 8, 1, 1)
	wantFit(t, "\x0d", 8, 2, 4)
	wantFit(t, "\x0d", 8, 4, 4) // just as many as are free beside one another
	wantNoFit(t, "\x0d", 8, 5)  // one more, though five are free
	wantFit(t, "\x55", 8, 1, 1)
	wantNoFit(t, "\x55", 8, 2)
	wantFit(t, "\xfe\xff", 16, 1, 0)
	wantFit(t, "\x3f\xfc", 16, 4, 6) // across bytes
	wantNoFit(t, "\x3f\xfc", 16, 5)
	wantFit(t, "\x3f\xfc", 16, 3, 6)
	wantFit(t, "\xff\x00", 16, 8, 8)
	wantFit(t, "\xff\x00\x00", 24, 16, 8)
	wantFit(t, "\xcc\x0f", 16, 2, 0)
	wantFit(t, "\xcc\x0f", 16, 3, 12)
	wantFit(t, "\x01\x01\x00", 24, 7, 1)
	wantFit(t, "\x01\x01\x00", 24, 8, 9)
}

func TestFitAtTheEndOfTheFirstN(t *testing.T) {
	wantFit(t, "\x0f", 6, 2, 4) // ends at n
	wantNoFit(t, "\x0f", 5, 2)  // is cut off by it
	wantFit(t, "\x0f", 5, 1, 4)
	wantNoFit(t, "\x0f", 4, 1)
	wantFit(t, "\x0d", 7, 3, 4)
	wantNoFit(t, "\x0d", 6, 3)
	wantFit(t, "\xff\x00", 12, 4, 8)
	wantNoFit(t, "\xff\x00", 11, 4)
	wantFit(t, "\x1f\xf0", 12, 7, 5)
	wantNoFit(t, "\x1f\xf0", 11, 7)
	wantNoFit(t, "\x1f\xf0", 12, 8)
}

// M4

func TestFreeAtItsEdges(t *testing.T) {
	for _, b := range []string{"", "\x00", "\xff", "\x0d", "\x00\x00"} {
		for _, n := range []int{math.MinInt, math.MinInt + 1, -8, -1, 0} {
			wantFree(t, b, n)
		}
	}
	for _, n := range []int{1, 8, 1 << 32, math.MaxInt} {
		wantFree(t, "", n)
		wantFree(t, "\xff", n)
		wantFree(t, "\xff\xff\xff", n)
	}
	for _, n := range []int{16, 17, 24, 1 << 32, math.MaxInt - 1, math.MaxInt} {
		wantFree(t, "\x00\x00", n, run(0, 16))
		wantFree(t, "\xfe\x7f", n, run(0, 1), run(15, 1))
		wantFree(t, "\xff\x7f", n, run(15, 1))
		wantFree(t, "\x01\x80", n, run(1, 14))
	}
	for n := 1; n <= 16; n++ {
		wantFree(t, "\x00\x00", n, run(0, n))
	}
}

func TestFreeWithinRuns(t *testing.T) {
	wantFree(t, "\x0d", 1)
	wantFree(t, "\x0d", 2, run(1, 1))
	wantFree(t, "\x0d", 3, run(1, 1))
	wantFree(t, "\x0d", 4, run(1, 1))
	wantFree(t, "\x0d", 5, run(1, 1), run(4, 1))
	wantFree(t, "\x0d", 6, run(1, 1), run(4, 2))
	wantFree(t, "\x0d", 8, run(1, 1), run(4, 4))
	wantFree(t, "\x55", 8, run(1, 1), run(3, 1), run(5, 1), run(7, 1))
	wantFree(t, "\xaa", 8, run(0, 1), run(2, 1), run(4, 1), run(6, 1))
	wantFree(t, "\x3f\xfc", 16, run(6, 4)) // one run, though of two bytes
	wantFree(t, "\x3f\xfc", 8, run(6, 2))
	wantFree(t, "\x3f\xfc", 9, run(6, 3))
	wantFree(t, "\xf0\x0f\xf0", 24, run(0, 4), run(12, 8))
	wantFree(t, "\xf0\xff\x0f", 24, run(0, 4), run(20, 4))
}

// M3 to M5

// wantAll holds Fit, Free and Runs of a bitmap against its row, and against one another.
func wantAll(t *testing.T, b, row string, n int, counts []int) {
	t.Helper()
	row = firstOf(row, n)
	runs := Runs(b, n)
	if want := runsOf(row); !slices.Equal(runs, want) {
		t.Fatalf("Runs(%.20q, %d): %v; want %v", b, n, runs, want)
	}
	if free, want := Free(b, n), strings.Count(row, "0"); free != want {
		t.Fatalf("Free(%.20q, %d): %d; want %d", b, n, free, want)
	}
	all := 0
	for _, x := range runs {
		all += x.Count
	}
	if free := Free(b, n); free != all {
		t.Fatalf("Free(%.20q, %d): %d; Runs have %d", b, n, free, all)
	}
	for _, count := range counts {
		start, ok := Fit(b, n, count)
		if want, is := fitOf(row, count); start != want || ok != is {
			t.Fatalf("Fit(%.20q, %d, %d): %d, %v; want %d, %v", b, n, count, start, ok, want, is)
		}
		if count < 1 {
			continue
		}
		k := slices.IndexFunc(runs, func(x api.Extent) bool { return x.Count >= count })
		if ok != (k >= 0) || ok && start != runs[k].Start {
			t.Fatalf("Fit(%.20q, %d, %d): %d, %v; Runs are %v", b, n, count, start, ok, runs)
		}
	}
}

func TestShortTexts(t *testing.T) {
	t.Parallel()
	counts := []int{-1, 0, 1, 2, 3, 4, 5, 6, 7, 8, 9, 10, 11, 12, 13, 14, 15, 16, 17}
	for _, b := range shortTexts() {
		row := rowOf(b)
		for n := -1; n <= 8*len(b)+1; n++ {
			wantAll(t, b, row, n, counts[:min(len(counts), 8*len(b)+4)])
		}
	}
}

func TestChosenTexts(t *testing.T) {
	r := rand.New(rand.NewSource(1))
	for k := range 3000 {
		b := chosenText(r, k%100)
		n := r.Intn(8*len(b) + 12)
		wantAll(t, b, rowOf(b), n, []int{1, 2, 3, 8, 9, 1 + r.Intn(40), 1 + r.Intn(8*len(b)+2)})
	}
}

func TestSetOfChosenTexts(t *testing.T) {
	r := rand.New(rand.NewSource(2))
	for k := range 3000 {
		b := chosenText(r, k%100)
		row := rowOf(b)
		start := r.Intn(len(row) + 1)
		count := r.Intn(len(row) - start + 1)
		wantSet(t, b, start, count, true, textOf(row[:start]+strings.Repeat("1", count)+row[start+count:]))
		wantSet(t, b, start, count, false, textOf(row[:start]+strings.Repeat("0", count)+row[start+count:]))
	}
}

func TestSetOnAndOffAgain(t *testing.T) {
	r := rand.New(rand.NewSource(3))
	texts := []string{"\x00", "\x0d", "\x55", "\xfe\x7f", "\x3f\xfc", Make(100), Make(32768)}
	for n := range 60 {
		texts = append(texts, chosenText(r, n))
	}
	for _, b := range texts {
		for _, x := range Runs(b, math.MaxInt) {
			start := x.Start + r.Intn(x.Count)
			for _, y := range []api.Extent{x, {Start: x.Start, Count: 1}, {Start: start, Count: x.Start + x.Count - start}} {
				on, ok := Set(b, y.Start, y.Count, true)
				if !ok || on == b {
					t.Fatalf("Set(%.20q, %v, true): %.20q, %v", b, y, on, ok)
				}
				wantSet(t, on, y.Start, y.Count, false, b)
			}
		}
	}
}

// TestBlocksComeAndGo lays rows of bits into a bitmap where Fit says, and takes them off again, beside a list of what is used.
func TestBlocksComeAndGo(t *testing.T) {
	const blocks = 1203 // in the middle of a byte
	r := rand.New(rand.NewSource(4))
	b := Make(api.MaxBlocks)
	row := strings.Repeat("0", api.MaxBlocks)
	var held []api.Extent
	refused := 0
	for range 2000 {
		if len(held) > 0 && r.Intn(5) < 2 {
			k := r.Intn(len(held))
			x := held[k]
			held = slices.Delete(held, k, k+1)
			row = row[:x.Start] + strings.Repeat("0", x.Count) + row[x.Start+x.Count:]
			wantSet(t, b, x.Start, x.Count, false, textOf(row))
			b = textOf(row)
			continue
		}
		count := 1 + r.Intn(60)
		want, is := fitOf(row[:blocks], count)
		start, ok := Fit(b, blocks, count)
		if start != want || ok != is {
			t.Fatalf("Fit of %d: %d, %v; want %d, %v", count, start, ok, want, is)
		}
		if ok {
			held = append(held, run(start, count))
			row = row[:start] + strings.Repeat("1", count) + row[start+count:]
			wantSet(t, b, start, count, true, textOf(row))
			b = textOf(row)
		} else {
			refused++
		}
		wantFree(t, b, blocks, runsOf(row[:blocks])...)
	}
	if refused == 0 || Free(b, blocks) > blocks/2 {
		t.Errorf("%d refused, %d of %d free: the test held too little", refused, Free(b, blocks), blocks)
	}
}

// P1, P3, P4

func TestGreatTexts(t *testing.T) {
	const many = 1 << 20
	b := strings.Repeat("\x00", many)
	wantFree(t, b, math.MaxInt, run(0, 8*many))
	wantFit(t, b, math.MaxInt, 8*many, 0)
	wantNoFit(t, b, math.MaxInt, 8*many+1)
	wantGet(t, b, 8*many-1, false)
	wantSet(t, b, 0, 8*many, true, strings.Repeat("\xff", many))
	wantSet(t, b, 8*many-1, 1, true, b[1:]+"\x80")
	wantNoSet(t, b, 8*many-1, 2)
	wantFree(t, strings.Repeat("\xff", many), math.MaxInt)
	wantNoFit(t, strings.Repeat("\xff", many), math.MaxInt, 1)
}

// TestPiecesOfTexts asks of a text that stands within a longer one, which is to be neither read nor changed.
func TestPiecesOfTexts(t *testing.T) {
	for _, around := range []string{"\x00", "\xff"} {
		long := strings.Repeat(around, 3) + "\x0d\x70" + strings.Repeat(around, 3)
		was := strings.Clone(long)
		b := long[3:5]
		wantGet(t, b, 16, false)
		wantGet(t, b, -1, false)
		wantSet(t, b, 0, 16, true, "\xff\xff")
		wantSet(t, b, 0, 16, false, "\x00\x00")
		wantSet(t, b, 4, 4, true, "\xfd\x70")
		wantNoSet(t, b, 16, 1)
		wantFit(t, b, 100, 8, 4)
		wantNoFit(t, b, 100, 9)
		wantFree(t, b, 100, run(1, 1), run(4, 8), run(15, 1))
		if long != was || b != "\x0d\x70" {
			t.Errorf("the text is %q; it was %q", long, was)
		}
	}
}

func TestTheTextIsAsItWas(t *testing.T) {
	r := rand.New(rand.NewSource(5))
	for n := range 40 {
		b := chosenText(r, n)
		was := strings.Clone(b)
		Get(b, n)
		Set(b, 0, 8*n, true)
		Set(b, 0, 8*n, false)
		Set(b, 8*n, 1, true)
		Fit(b, 8*n, 3)
		Free(b, 8*n)
		Runs(b, 8*n)
		if b != was {
			t.Errorf("the text is %q; it was %q", b, was)
		}
	}
}

func TestRunsAreNew(t *testing.T) {
	b := "\x0d\x70"
	l, other := Runs(b, 16), Runs(b, 16)
	for i := range l {
		l[i] = run(-1, -1)
	}
	_ = append(l[:0], run(7, 7))
	want := []api.Extent{run(1, 1), run(4, 8), run(15, 1)}
	if !slices.Equal(other, want) {
		t.Errorf("Runs are %v behind a change of others; want %v", other, want)
	}
	wantFree(t, b, 16, want...)
}

// The document's examples

func TestExamples(t *testing.T) {
	if s := Make(9); s != "\x00\x00" {
		t.Errorf("Make(9): %q", s)
	}
	for i, want := range map[int]bool{0: true, 1: false, 2: true, 8: false} {
		wantGet(t, "\x05", i, want)
	}
	wantSet(t, "\x00", 1, 3, true, "\x0e")
	wantNoSet(t, "\x00", 6, 3)
	wantFit(t, "\x0d", 8, 1, 1)
	wantFit(t, "\x0d", 8, 2, 4)
	wantNoFit(t, "\x0d", 8, 5)
	wantNoFit(t, "\x0d", 5, 2)
	wantFree(t, "\x0d", 8, run(1, 1), run(4, 4))
}
