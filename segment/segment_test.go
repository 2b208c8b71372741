package segment_test

import (
	"fmt"
	"math/rand"
	"slices"
	"strings"
	"testing"

	"codex/api"
	"codex/segment"
)

func wantRight(t *testing.T, ok bool, x api.Doc) {
	t.Helper()
	if modelRight(x) != ok {
		t.Fatalf("%s: want %v", short(x), ok)
	}
	if right := segment.Right(x); right != ok {
		t.Errorf("Right(%s): %v", short(x), right)
	}
	err := api.OK
	if !ok {
		err = api.ErrArg
	}
	wantBuild(t, err, x)
	wantBuild(t, err, d("first", "b"), x, d("last", "b"))
}

// G1, of Right

func TestLengthsOfIDs(t *testing.T) {
	wantRight(t, false, d("", ""))
	wantRight(t, false, d("", "text"))
	for n := 1; n <= 100; n++ {
		wantRight(t, n <= 40, d(strings.Repeat("k", n), ""))
		wantRight(t, n <= 40, d(strings.Repeat("\x00", n), "text"))
		// Bytes are counted, and not runes.
		wantRight(t, n <= 20, d(strings.Repeat("é", n), ""))
		wantRight(t, n <= 13, d(strings.Repeat("中", n), ""))
		wantRight(t, n <= 10, d(strings.Repeat("\U0001f600", n), ""))
	}
	wantRight(t, true, d(strings.Repeat("中", 13)+"x", ""))
	wantRight(t, false, d(strings.Repeat("中", 13)+"é", ""))
	for _, n := range []int{127, 128, 129, 255, 256, 257, 296, 1000, 2000, 1 << 16, 1<<16 + 1} {
		wantRight(t, false, d(strings.Repeat("k", n), ""))
	}
}

func TestLengthsOfTexts(t *testing.T) {
	for _, n := range []int{0, 1, 40, 41, 126, 127, 128, 129, 255, 256, 1998, 1999, 2000, 2001, 2002, 2047, 2048, 3999, 4000, 4001, 1 << 16, 1 << 16 * 3} {
		wantRight(t, n <= 2000, d("x", strings.Repeat("k", n)))
		wantRight(t, n <= 2000, d("x", strings.Repeat(" ", n)))
		wantRight(t, n <= 2000, d(strings.Repeat("k", 40), strings.Repeat("ab ", n/3)+"abc"[:n%3]))
		wantRight(t, n <= 1000, d("x", strings.Repeat("é", n)))
		wantRight(t, n <= 500, d("x", strings.Repeat("\U0001f600", n)))
	}
	wantRight(t, true, d("x", strings.Repeat("中", 666)+"é"))
	wantRight(t, false, d("x", strings.Repeat("中", 667)))
}

func TestWhatIsText(t *testing.T) {
	texts := []string{
		"\x00", "\x01", "\t", "\n", " ", "\x7f", "\u0080", "\u07ff", "\u0800", "\ud7ff", "\ue000", "\ufeff", "\ufffd", "\ufffe", "\uffff", "\U00010000", "\U0001f600", "\U0010ffff", "a\u0301", "é", "CDXG", "%2F/?#", "\x00\x00\x00",
	}
	for _, s := range texts {
		wantRight(t, true, d(s, s))
		wantRight(t, true, d("x"+s, "x"+s+"x"))
	}
	none := []string{
		"\x80", "\xbf", "\xc0", "\xc0\x80", "\xc1\xbf", "\xc3", "\xc3\x28", "\xdf", "\xe0\x80\x80", "\xe0\x9f\xbf", "\xe4\xb8", "\xed\xa0\x80", "\xed\xbf\xbf", "\xf0\x80\x80\x80", "\xf0\x8f\xbf\xbf",
		"\xf0\x9f\x98", "\xf4\x90\x80\x80", "\xf5\x80\x80\x80", "\xf8\x88\x80\x80\x80", "\xfe", "\xff", "\xff\xff",
	}
	for _, s := range none {
		wantRight(t, false, d(s, ""))
		wantRight(t, false, d("x", s))
		for _, x := range []string{"x" + s, s + "x", "é" + s + "é", strings.Repeat("x", 30) + s} {
			wantRight(t, false, d(x, "text"))
			wantRight(t, false, d("id", x))
		}
		wantRight(t, false, d("id", strings.Repeat("x ", 990)+s))
	}
	// Neither end makes the other one whole.
	wantRight(t, false, d("\xc3", "\xa9"))
	wantRight(t, true, d("\xc3\xa9", "\xc3\xa9"))
}

// G1, of Build

func wantBytes(t *testing.T, want string, docs ...api.Doc) {
	t.Helper()
	if s, e := segment.Build(docs); s != withSum(want) || e != api.OK {
		t.Errorf("Build(%s): %q, %v; want %q", short(docs), s, e, withSum(want))
	}
	hold(t, docs)
}

func TestBytes(t *testing.T) {
	wantBytes(t, "CDXG\x01\x01x\x00\x01\x00", d("x", ""))
	wantBytes(t, "CDXG\x01\x01x\x02..\x01\x00", d("x", ".."))
	wantBytes(t, "CDXG\x01\x02\xc3\xa9\x03The\x01\x00", d("é", "The"))
	wantBytes(t, "CDXG\x01\x01x\x01B\x0c\x01\x01b\x08\x00\x01b\x04\x01\x01\x01\x01", d("x", "B"))
	wantBytes(t, "CDXG\x02\x01x\x00\x01y\x03..b\x0c\x01\x01b\x08\x00\x01b\x04\x01\x02\x01\x01", d("x", ""), d("y", "..b"))
	// a1: 0 at 1, 1 at 0; b: 0 at 0 and 2.
	wantBytes(t, "CDXG\x02\x01x\x06b a1 b\x01y\x02A1\x1a\x02\x02a1\x15\x00\x02a1\x07\x02\x01\x01\x02\x01\x01\x01\x00\x01b\x05\x01\x01\x02\x01\x02", d("x", "b a1 b"), d("y", "A1"))
	// In the other order documents have other numbers, but terms rise as they did.
	wantBytes(t, "CDXG\x02\x01y\x02A1\x01x\x06b a1 b\x1a\x02\x02a1\x15\x00\x02a1\x07\x02\x01\x01\x01\x01\x01\x02\x00\x01b\x05\x01\x02\x02\x01\x02", d("y", "A1"), d("x", "b a1 b"))
	// Two terms that begin alike; a stop word has a place, but no postings.
	wantBytes(t, "CDXG\x01\x01x\x0dfoxes the FOX\x19\x02\x03fox\x13\x00\x03fox\x04\x01\x01\x01\x03\x03\x02es\x04\x01\x01\x01\x01", d("x", "foxes the FOX"))
}

func TestLengthsOfTwoBytes(t *testing.T) {
	blanks := strings.Repeat(" ", 200)
	wantBytes(t, "CDXG\x01\x01x\xc8\x01"+blanks+"\x01\x00", d("x", blanks))
	// The value has 204 bytes, the block five more, the dictionary again five more.
	text, places := strings.Repeat("w ", 200), strings.Repeat("\x01", 200)
	wantBytes(t, "CDXG\x01\x01x\x90\x03"+text+"\xd6\x01\x01\x01w\xd1\x01\x00\x01w\xcc\x01\x01\x01\xc8\x01"+places, d("x", text))
	var many []api.Doc
	s := "CDXG\xc8\x01"
	for i := range 200 {
		many = append(many, d(fmt.Sprintf("%03d", i), ""))
		s += fmt.Sprintf("\x03%03d\x00", i)
	}
	wantBytes(t, s+"\x01\x00", many...)
}

// Of nine postings and more the postings have skips; of seventeen terms and more the dictionary has two blocks.
func TestManyPostingsAndTerms(t *testing.T) {
	var l []api.Doc
	s := "CDXG\x09"
	for i := range 9 {
		l = append(l, d(string(rune('a'+i)), "w"))
		s += "\x01" + string(rune('a'+i)) + "\x01w"
	}
	wantBytes(t, s+"\x26\x01\x01w\x22\x00\x01w\x1e\x09\x08\x18"+strings.Repeat("\x01\x01\x01", 9), l...)
	text, blocks := "", ""
	for i, c := range "bcdefghijklmnopqr" {
		text += string(c) + " "
		blocks += "\x00\x01" + string(c) + "\x04\x01\x01\x01" + string(rune(i+1))
	}
	wantBytes(t, "CDXG\x01\x01x\x22"+text+"\x90\x01\x11\x01b\x80\x01\x01r\x08"+blocks, d("x", text))
	for _, n := range []int{7, 8, 9, 10, 15, 16, 17, 18, 24, 25, 31, 32, 33, 100} {
		hold(t, row(n))
	}
}

func TestHowManyDocuments(t *testing.T) {
	wantBuild(t, api.ErrMany)
	wantBuild(t, api.ErrMany, []api.Doc{}...)
	wantBuild(t, api.ErrMany, row(3)[:0]...)
	for n := 1; n <= 40; n++ {
		wantBuild(t, api.OK, row(n)...)
	}
	for _, n := range []int{127, 128, 129, 255, 256, 257, 498, 499, 500} {
		hold(t, row(n))
	}
	for _, n := range []int{501, 502, 512, 756, 1000, 1001, 5000, 1 << 16, 1<<16 + 1} {
		wantBuild(t, api.ErrMany, row(n)...)
	}
	// That there are too many is told first.
	wantBuild(t, api.ErrMany, make([]api.Doc, 501)...)
	wantBuild(t, api.ErrMany, slices.Repeat([]api.Doc{d("x", "b")}, 501)...)
	wantBuild(t, api.ErrMany, slices.Repeat([]api.Doc{d("\xff", "\xff")}, 1<<17)...)
	wantBuild(t, api.ErrArg, make([]api.Doc, 500)...)
	wantBuild(t, api.ErrArg, slices.Repeat([]api.Doc{d("x", "b")}, 500)...)
}

// Of so many documents one alone is not right.
func TestOneIsNotRight(t *testing.T) {
	wrong := []api.Doc{d("", "b"), d(strings.Repeat("k", 41), "b"), d("\xff", "b"), d("id", "\xff"), d("id", strings.Repeat("b ", 1000)+"b")}
	for _, n := range []int{1, 2, 3, 17, 500} {
		for i := range n {
			if n == 500 && i%71 > 0 && i < 499 {
				continue
			}
			for _, x := range wrong {
				l := row(n)
				l[i] = x
				wantBuild(t, api.ErrArg, l...)
			}
			l := row(n)
			l[i] = d(strings.Repeat("k", 40), strings.Repeat("b ", 1000))
			wantBuild(t, api.OK, l...)
		}
	}
	wantBuild(t, api.ErrArg, wrong...)
	wantBuild(t, api.ErrArg, append(wrong, wrong...)...)
}

func TestTwoOfOneID(t *testing.T) {
	for _, n := range []int{2, 3, 4, 20} {
		for i := range n {
			for k := range i {
				l := row(n)
				l[i].ID = l[k].ID
				wantBuild(t, api.ErrArg, l...)
				l[i].Text = l[k].Text
				wantBuild(t, api.ErrArg, l...)
				l[i].ID = "other"
				wantBuild(t, api.OK, l...)
			}
		}
	}
	for _, at := range [][]int{{0, 1}, {0, 499}, {498, 499}, {17, 400}} {
		l := row(500)
		l[at[1]].ID = l[at[0]].ID
		wantBuild(t, api.ErrArg, l...)
	}
	wantBuild(t, api.ErrArg, d("x", "b"), d("x", "b"), d("x", "b"))
}

// IDs are bytes: they are not folded, nor is anything cut off.
func TestIDsThatAreClose(t *testing.T) {
	ids := []string{"x", "X", "x ", " x", "x\x00", "\x00", "\x00\x00", "the", "The", "é", "É", "e\u0301", "\u00e9 ", "a1", "A1", "1", "01", "10", "xx", strings.Repeat("x", 39), strings.Repeat("x", 40), "σ", "ς", "Σ", "CDXG"}
	var l []api.Doc
	for i, id := range ids {
		l = append(l, d(id, fmt.Sprint("t", i)))
	}
	hold(t, l)
	for i := range l {
		for k := range l {
			if i != k {
				hold(t, []api.Doc{l[i], l[k]})
			}
		}
	}
}

// Each place of a document is told by the test itself here.
func TestWhatTermsHave(t *testing.T) {
	long := strings.Repeat("n", 41)
	g := hold(t, []api.Doc{
		d("0", "The quick, brown-fox the 2nd"),
		d("1", long+" fox "+long+"x Fox FOX"),
		d("2", "to be or not to be"),
		d("3", "Σς Ж é É"),
		d("4", "quick\x00quick\u0301quick"),
		d("5", "fox"),
	})
	for _, x := range []held{
		{"quick", []api.Posting{p(0, 1), p(4, 0, 1, 2)}}, {"brown", []api.Posting{p(0, 2)}}, {"fox", []api.Posting{p(0, 3), p(1, 1, 3, 4), p(5, 0)}}, {"2nd", []api.Posting{p(0, 5)}},
		{"not", []api.Posting{p(2, 3)}}, {"σσ", []api.Posting{p(3, 0)}}, {"ж", []api.Posting{p(3, 1)}}, {"é", []api.Posting{p(3, 2, 3)}},
		{"the", nil}, {"The", nil}, {"be", nil}, {"Fox", nil}, {"FOX", nil}, {"Σς", nil}, {long, nil}, {long[:40], nil}, {"qui", nil}, {"quickly", nil}, {"fox ", nil}, {"brown-fox", nil}, {"", nil},
	} {
		for from := -1; from < 8; from++ {
			want := slices.DeleteFunc(slices.Clone(x.l), func(y api.Posting) bool { return y.Doc < from })
			if l := gathered(g.Postings(x.term, from)); !same(l, want) {
				t.Errorf("Postings(%q, %d): %v; want %v", x.term, from, l, want)
			}
		}
	}
	for _, c := range []struct {
		prefix string
		want   []string
	}{
		{"", []string{"2nd", "brown", "fox", "not", "quick", "é", "σσ", "ж"}}, {"q", []string{"quick"}}, {"quick", []string{"quick"}}, {"quick1", nil}, {"Q", nil}, {"\xc3", []string{"é"}}, {"\xcf", []string{"σσ"}}, {"t", nil}, {"n", []string{"not"}}, {long, nil},
	} {
		if l := g.Terms(c.prefix); !slices.Equal(l, c.want) {
			t.Errorf("Terms(%q): %q; want %q", c.prefix, l, c.want)
		}
	}
}

// The places of a document's words are the most that it can have, or stand as far apart as they can.
func TestMostPlaces(t *testing.T) {
	hold(t, []api.Doc{d("x", strings.Repeat("w ", 1000)), d("y", strings.Repeat("w,", 999)+"ww")})
	hold(t, []api.Doc{d("x", "w "+strings.Repeat("a ", 998)+"w")})
	hold(t, []api.Doc{d("x", strings.Repeat("中 ", 500)), d("y", strings.Repeat("é-", 666)+"é")})
	hold(t, []api.Doc{d("x", strings.Repeat("w", 2000)), d("y", strings.Repeat("w", 40)), d("z", strings.Repeat("w", 41))})
}

func TestMostOfAll(t *testing.T) {
	var alike, unlike []api.Doc
	for i := range 500 {
		id := strings.Repeat("k", 37) + fmt.Sprintf("%03d", i)
		alike = append(alike, d(id, strings.Repeat("w ", 1000)))
		var b strings.Builder
		for k := range 400 {
			fmt.Fprintf(&b, "%s%s%s ", string(rune('b'+i%25)), string(rune('b'+i/25)), string([]byte{'b' + byte(k%20), 'b' + byte(k/20)}))
		}
		unlike = append(unlike, d(id, b.String()))
	}
	for _, docs := range [][]api.Doc{alike, unlike} {
		wantBuild(t, api.OK, docs...)
		g := opened(t, modelBytes(docs))
		if !slices.Equal(g.Docs(), docs) || !slices.Equal(g.Terms(""), modelTerms(docs)) {
			t.Error("Docs or Terms of the most documents")
		}
		for i, x := range modelHeld(docs) {
			if i%997 == 0 {
				holdPostings(t, g, x, 500)
			}
		}
	}
}

// G2, of Open

func TestBytesThatAreTooFew(t *testing.T) {
	for n := range 8 {
		for _, s := range []string{"CDXG\x00\x00\x00\x00", modelBytes(row(1)), withSum("CDXG"), "\x00\x00\x00\x00\x00\x00\x00\x00", withSum(""), withSum("CDX")} {
			wantOpen(t, api.ErrForm, s[:min(n, len(s))])
		}
	}
	wantOpen(t, api.ErrForm, withSum("CDXG"))
	wantOpen(t, api.ErrSum, "CDXG\x00\x00\x00\x00")
	wantOpen(t, api.ErrSum, "CDXGCDXG")
	wantOpen(t, api.ErrSum, "CDXG\x01\x00\x00\x00\x00")
}

func TestBytesThatBeginOtherwise(t *testing.T) {
	for _, l := range few() {
		body := strings.TrimPrefix(strings.Join(modelPieces(l), ""), "CDXG")
		for _, s := range []string{"", "C", "CDX", "cdxg", "CDXg", "CDXF", "CDXH", "GXDC", "XDCG", "CDX\x00", "CDCDXG", "\x00CDXG", " CDXG", "CD\x00XG", "DXG", "\xff\xff\xff\xff"} {
			wantOpen(t, api.ErrForm, withSum(s+body))
			// Of both faults this one is told.
			wantOpen(t, api.ErrForm, s+body+"\x00\x00\x00\x00")
		}
		for i := range 4 {
			for c := range 256 {
				if s := []byte("CDXG"); s[i] != byte(c) {
					s[i] = byte(c)
					wantOpen(t, api.ErrForm, withSum(string(s)+body))
				}
			}
		}
	}
}

func TestBytesWithAnotherSum(t *testing.T) {
	for _, l := range few() {
		s := modelBytes(l)
		body, end := s[:len(s)-4], s[len(s)-4:]
		for bit := range 32 {
			b := []byte(end)
			b[bit/8] ^= 1 << (bit % 8)
			wantOpen(t, api.ErrSum, body+string(b))
		}
		for _, other := range []string{"\x00\x00\x00\x00", "\xff\xff\xff\xff", end[1:] + end[:1], string([]byte{end[3], end[2], end[1], end[0]}), withSum(body[4:])[len(body)-4:], withSum(s)[len(s):]} {
			wantOpen(t, api.ErrSum, body+other)
		}
		// Of what stands behind a sum that was right there is none.
		for _, more := range []string{"\x00", "x", "\x00\x00\x00\x00", end, s} {
			wantOpen(t, api.ErrSum, s+more)
		}
		// What is no documents' bytes has another sum first of all.
		wantOpen(t, api.ErrSum, "CDXG"+body[5:]+end)
	}
}

func TestBytesCutShort(t *testing.T) {
	for _, l := range few() {
		s := modelBytes(l)
		for n := range len(s) {
			err := api.ErrSum
			if n < 8 {
				err = api.ErrForm
			}
			wantOpen(t, err, s[:n])
			if n < len(s)-4 {
				wantForm(t, s[:n])
			}
		}
	}
}

func TestMoreBehind(t *testing.T) {
	for _, l := range few() {
		body := strings.Join(modelPieces(l), "")
		for c := range 256 {
			wantForm(t, body, string([]byte{byte(c)}))
		}
		for _, more := range []string{"\x00\x00", "\x01z\x00", "\x01\x00", body, body[4:], withSum(body), strings.Repeat("\x00", 100)} {
			wantForm(t, body, more)
		}
	}
}

func TestEachByteMadeAnother(t *testing.T) {
	for _, l := range few() {
		s := modelBytes(l)
		body := s[:len(s)-4]
		for i := range len(body) {
			for c := range 256 {
				if len(body) < 60 || c%13 == i%13 || c == int(s[i])^128 || c == int(s[i])^32 {
					other := body[:i] + string([]byte{byte(c)}) + body[i+1:]
					holdBytes(t, withSum(other))
					holdBytes(t, other+s[len(body):])
				}
			}
		}
	}
}

func TestBytesPutInAndTakenOut(t *testing.T) {
	for _, l := range few() {
		body := strings.Join(modelPieces(l), "")
		for i := range len(body) {
			holdBytes(t, withSum(body[:i]+body[i+1:]))
			for _, c := range []byte{0, 1, 2, 3, 16, 127, 128, 129, 255, 'a', 'b', ' ', body[i]} {
				holdBytes(t, withSum(body[:i]+string([]byte{c})+body[i:]))
			}
		}
	}
}

func TestAllBytesOfFew(t *testing.T) {
	bytes := []byte{0, 1, 2, 3, 4, 'a', 'x', 127, 128, 255}
	for c := range 256 {
		holdBytes(t, withSum("CDXG"+string([]byte{byte(c)})))
		for e := range 256 {
			holdBytes(t, withSum("CDXG"+string([]byte{byte(c), byte(e)})))
			holdBytes(t, withSum("CDXG\x01\x01"+string([]byte{byte(c)})+"\x00\x01"+string([]byte{byte(e)})))
			holdBytes(t, withSum("CDXG\x01\x01x\x01"+string([]byte{byte(c)})+"\x01"+string([]byte{byte(e)})))
		}
	}
	for _, c := range bytes {
		for _, e := range bytes {
			for _, f := range bytes {
				for _, h := range bytes {
					holdBytes(t, withSum("CDXG"+string([]byte{c, e, f, h})))
					holdBytes(t, withSum("CDXG\x01\x01x"+string([]byte{c, e, f, h})))
				}
			}
		}
	}
}

// with is pieces of which one is another.
func with(l []string, i int, other string) []string {
	l = slices.Clone(l)
	l[i] = other
	return l
}

// numbersAt are the places of the pieces that are numbers.
func numbersAt(docs []api.Doc) []int {
	l := []int{1}
	for i := range docs {
		l = append(l, 2+4*i, 4+4*i)
	}
	return append(l, 2+4*len(docs))
}

func TestNumbersInMoreBytes(t *testing.T) {
	for _, l := range few() {
		parts := modelPieces(l)
		for _, i := range numbersAt(l) {
			b := []byte(parts[i])
			b[len(b)-1] += 128
			wantForm(t, with(parts, i, string(b)+"\x00")...)
			wantForm(t, with(parts, i, string(b)+"\x80\x00")...)
		}
	}
}

func TestLargeNumbers(t *testing.T) {
	large := []string{
		"\xf4\x03", "\xf5\x03", "\x80\x08", "\xd1\x0f", "\xff\x7f", "\x80\x80\x04", "\x81\x80\x04", "\xff\xff\xff\x7f", "\x80\x80\x80\x80\x08", "\xff\xff\xff\xff\x0f", "\x80\x80\x80\x80\x10", "\x81\x80\x80\x80\x10", "\xff\xff\xff\xff\xff\xff\xff\xff\x7f",
		"\x80\x80\x80\x80\x80\x80\x80\x80\x80\x01", "\x81\x80\x80\x80\x80\x80\x80\x80\x80\x01", "\xff\xff\xff\xff\xff\xff\xff\xff\xff\x01", "\xff\xff\xff\xff\xff\xff\xff\xff\xff\x02", "\xff\xff\xff\xff\xff\xff\xff\xff\xff\xff\x01",
	}
	for _, l := range few() {
		parts := modelPieces(l)
		for _, i := range numbersAt(l) {
			for _, s := range large {
				wantForm(t, with(parts, i, s)...)
				wantForm(t, strings.Join(parts[:i], ""), s)
				wantForm(t, strings.Join(parts[:i], ""), s, strings.Repeat("\x01", 5000))
			}
			for v := range 300 {
				if numberBytes(v) != parts[i] {
					holdBytes(t, joined(with(parts, i, numberBytes(v))))
				}
			}
		}
	}
}

// As many documents as are told, but more or fewer of them stand there.
func TestAnotherNumberOfDocuments(t *testing.T) {
	for n := 1; n <= 5; n++ {
		parts := modelPieces(row(n))
		for v := range 9 {
			if v != n {
				wantForm(t, with(parts, 1, numberBytes(v))...)
				wantForm(t, pieces(row(n), dictBytes(modelHeld(row(v)), 16))...)
			}
		}
	}
}

// What Build refuses has no bytes that are opened, be they written as those of others are.
func TestBytesOfWhatBuildRefuses(t *testing.T) {
	for _, l := range [][]api.Doc{
		nil, {d("", "b")}, {d("", "")}, {d(strings.Repeat("k", 41), "b")}, {d("\xff", "b")}, {d("x", "\xff")}, {d("x", "b \xc3 b")}, {d("x", strings.Repeat("b ", 1000)+"b")}, {d("x", strings.Repeat(" ", 2001))}, {d("x", strings.Repeat("b ", 3000))},
		{d("x", "b"), d("x", "b")}, {d("x", "b"), d("y", "b"), d("x", "c")}, {d("x", "b"), d("", "b")}, {d("x", ""), d("y", ""), d("\xed\xa0\x80", "")},
		row(501), row(502), row(600), make([]api.Doc, 501), slices.Repeat([]api.Doc{d("x", "b")}, 501),
	} {
		if _, e := modelBuild(l); e == api.OK {
			t.Fatalf("%s is built", short(l))
		}
		wantForm(t, modelPieces(l)...)
	}
	for _, n := range []int{501, 512, 756, 1000} {
		wantForm(t, with(modelPieces(row(n)), 1, numberBytes(500))...)
		wantForm(t, with(modelPieces(row(500)), 1, numberBytes(n))...)
	}
}

// The dictionary is another one than the documents': as a dictionary it is right, or almost.
func TestAnotherDictionary(t *testing.T) {
	all := few()
	for i, l := range all {
		own := modelHeld(l)
		wantOpen(t, api.OK, joined(pieces(l, dictBytes(own, 16))))
		for k, other := range all {
			if i != k && !slices.Equal(modelTerms(l), modelTerms(other)) {
				wantForm(t, pieces(l, dictBytes(modelHeld(other), 16))...)
			}
		}
		for _, s := range []string{"", "\x00\x00", "\x01", "\x80\x00", dictBytes(own, 16) + "\x00", dictBytes(own, 16)[1:]} {
			wantForm(t, pieces(l, s)...)
		}
		if len(own) > 8 {
			for _, size := range []int{1, 8, 15, 17, 32} {
				if len(own) > size || len(own) > 16 {
					wantForm(t, pieces(l, dictBytes(own, size))...)
				}
			}
		}
		for k, x := range own {
			for _, y := range otherHeld(x) {
				wantForm(t, pieces(l, dictBytes(slices.Concat(own[:k], y, own[k+1:]), 16))...)
			}
		}
		wantForm(t, pieces(l, dictBytes(append([]held{{"A", []api.Posting{p(0, 0)}}}, own...), 16))...)
		wantForm(t, pieces(l, dictBytes(append(own, held{"ж", []api.Posting{p(0, 0)}}), 16))...)
	}
}

// otherHeld is what might be told of a term in place of what it has.
func otherHeld(x held) [][]held {
	last := x.l[len(x.l)-1]
	most := last.Pos[len(last.Pos)-1]
	changed := func(y api.Posting) []held { return []held{{x.term, append(slices.Clone(x.l[:len(x.l)-1]), y)}} }
	return [][]held{
		nil, {x, x}, {{x.term + "x", x.l}}, {{strings.ToUpper(x.term) + "X", x.l}}, {{x.term, nil}}, {{x.term, x.l[:len(x.l)-1]}}, {{x.term, append(slices.Clone(x.l), p(last.Doc+1, 0))}},
		changed(p(last.Doc+1, last.Pos...)), changed(p(last.Doc, last.Pos[:len(last.Pos)-1]...)), changed(p(last.Doc, append(slices.Clone(last.Pos), most+1)...)), changed(p(last.Doc, append(slices.Clone(last.Pos[:len(last.Pos)-1]), most+1)...)),
		{x, {x.term + "\x00", x.l}},
	}
}

// Documents of another order are others.
func TestOrderOfDocuments(t *testing.T) {
	l := []api.Doc{d("x", "b a1 b"), d("y", "A1"), d("z", "b")}
	turned := []api.Doc{l[2], l[0], l[1]}
	hold(t, l)
	hold(t, turned)
	wantForm(t, pieces(turned, dictBytes(modelHeld(l), 16))...)
	wantForm(t, pieces(l, dictBytes(modelHeld(turned), 16))...)
}

// What is told of segments

func TestFew(t *testing.T) {
	for _, l := range few() {
		hold(t, l)
	}
}

func TestFindAmongMany(t *testing.T) {
	l := row(500)
	g := opened(t, modelBytes(l))
	for i := range l {
		for id, want := range map[string]int{fmt.Sprint("d", i): i, fmt.Sprint("d", i+500): -1, fmt.Sprint("D", i): -1, fmt.Sprint(i): -1, fmt.Sprint("n", i): -1} {
			if n, ok := g.Find(id); ok != (want >= 0) || n != max(want, 0) {
				t.Errorf("Find(%q): %d, %v", id, n, ok)
			}
		}
	}
}

func TestPostingsFromEachDocument(t *testing.T) {
	var docs []api.Doc
	for i := range 40 {
		docs = append(docs, d(fmt.Sprint(i), []string{"w", "", "w w", "v"}[i*i%11%4]))
	}
	g := hold(t, docs)
	for _, x := range modelHeld(docs) {
		for from := -2; from < 44; from++ {
			want := slices.DeleteFunc(slices.Clone(x.l), func(y api.Posting) bool { return y.Doc < from })
			if l := gathered(g.Postings(x.term, from)); !same(l, want) {
				t.Errorf("Postings(%q, %d): %v; want %v", x.term, from, l, want)
			}
		}
	}
}

func TestPostingsAreLeftAndGoneOverAgain(t *testing.T) {
	g := hold(t, row(30))
	seq, none := g.Postings("all", 5), g.Postings("nowhere", 0)
	for n := 1; n <= 25; n++ {
		for range 2 {
			count := 0
			for x := range seq {
				if x.Doc != 5+count || !slices.Equal(x.Pos, []int{0}) && x.Doc > 0 {
					t.Errorf("posting number %d: %v", count, x)
				}
				if count++; count == n {
					break
				}
			}
			if count != n {
				t.Errorf("%d postings; want %d", count, n)
			}
		}
		for x := range none {
			t.Errorf("%v of a term that is not there", x)
		}
	}
	for x := range seq { // one within another one
		count := x.Doc
		for y := range g.Postings("all", x.Doc) {
			if y.Doc != count {
				t.Errorf("%d; want %d", y.Doc, count)
			}
			count++
		}
	}
}

func TestChance(t *testing.T) {
	r := rand.New(rand.NewSource(14))
	for range 300 {
		hold(t, chosenDocs(r, 1+r.Intn(12), r.Intn(30)))
	}
	for range 10 {
		hold(t, chosenDocs(r, 1+r.Intn(100), 100))
	}
	for range 2 {
		hold(t, chosenDocs(r, 500, 40))
	}
}

func TestChanceOfBytes(t *testing.T) {
	r := rand.New(rand.NewSource(15))
	for range 3000 {
		body := []byte(strings.Join(modelPieces(chosenDocs(r, 1+r.Intn(5), 5)), ""))
		for range 1 + r.Intn(3) {
			body[r.Intn(len(body))] = byte(r.Intn(256))
		}
		holdBytes(t, withSum(string(body)))
		from, to := r.Intn(len(body)), r.Intn(len(body))
		copy(body[from:], body[to:])
		holdBytes(t, withSum(string(body)))
	}
	for range 3000 {
		b := make([]byte, r.Intn(40))
		r.Read(b)
		holdBytes(t, string(b))
		holdBytes(t, "CDXG"+string(b))
		holdBytes(t, withSum("CDXG"+string(b)))
	}
}

// P1 to P4

func TestSegmentThatWasNotOpened(t *testing.T) {
	g := &segment.Segment{}
	if l := g.Docs(); len(l) != 0 {
		t.Error(l)
	}
	if i, ok := g.Find("x"); i != 0 || ok {
		t.Error(i, ok)
	}
	for _, s := range strangers() {
		if l := gathered(g.Postings(s, -1)); len(l) != 0 {
			t.Error(s, l)
		}
		if l := g.Terms(s); len(l) != 0 {
			t.Error(s, l)
		}
	}
}

func TestListsThatAreAnsweredAreNew(t *testing.T) {
	docs := row(20)
	g := hold(t, docs)
	for range 2 {
		l := g.Docs()
		for i := range l {
			l[i] = d("changed", "changed")
		}
		clear(l[:cap(l)])
		terms := g.Terms("")
		for i := range terms {
			terms[i] = "changed"
		}
		terms = g.Terms("n1")
		clear(terms[:cap(terms)])
		for x := range g.Postings("all", 0) {
			x.Pos[0] = 77
			x.Pos = append(x.Pos, 78)
		}
		kept := gathered(g.Postings("all", 3))
		for i := range kept {
			clear(kept[i].Pos[:cap(kept[i].Pos)])
			kept[i].Pos = append(kept[i].Pos, 5)
		}
		holdSegment(t, g, docs)
	}
}

func TestWhatIsHandedInIsNotKept(t *testing.T) {
	docs := row(20)
	s, _ := segment.Build(docs)
	clear(docs)
	g, e := segment.Open(s)
	if e != api.OK {
		t.Fatal(e)
	}
	holdSegment(t, g, row(20))
	// A segment and what is built of its documents are not bound to each other.
	l := g.Docs()
	own, _ := segment.Build(l)
	clear(l)
	holdSegment(t, opened(t, own), row(20))
	holdSegment(t, g, row(20))
}

func TestBehindTheLength(t *testing.T) {
	for _, n := range []int{0, 1, 5, 499, 500} {
		behind := []api.Doc{d("d0", "twice"), d("", "\xff"), d("z", "b")}
		all := append(row(n), behind...)
		want, err := modelBuild(row(n))
		if s, e := segment.Build(all[:n]); s != want || e != err {
			t.Errorf("Build of %d with others behind: %d bytes, %v", n, len(s), e)
		}
		if !slices.Equal(all[:n], row(n)) || !slices.Equal(all[n:], behind) {
			t.Errorf("Build of %d changes the list", n)
		}
	}
}

func TestTheSameAgain(t *testing.T) {
	docs := chosenDocs(rand.New(rand.NewSource(16)), 60, 60)
	want := modelBytes(docs)
	g := hold(t, docs)
	for range 20 {
		if s, e := segment.Build(docs); s != want || e != api.OK {
			t.Fatal("Build tells another text the next time")
		}
		if _, e := segment.Build(nil); e != api.ErrMany {
			t.Error(e)
		}
		if _, e := segment.Open(want[1:]); e != api.ErrForm {
			t.Error(e)
		}
		if !slices.Equal(g.Terms(""), modelTerms(docs)) || !slices.Equal(g.Docs(), docs) {
			t.Error("another answer the next time")
		}
	}
	// Two segments stand beside one another.
	other := hold(t, row(9))
	holdSegment(t, g, docs)
	holdSegment(t, other, row(9))
}

// G3

func TestBuiltIsOpenedAndBuiltAgain(t *testing.T) {
	r := rand.New(rand.NewSource(17))
	for range 200 {
		docs := chosenDocs(r, 1+r.Intn(20), r.Intn(20))
		s, e := segment.Build(docs)
		if e != api.OK {
			t.Fatal(e)
		}
		g := opened(t, s)
		if l := g.Docs(); !slices.Equal(l, docs) {
			t.Fatalf("%s was %s", short(l), short(docs))
		}
		if again, e := segment.Build(g.Docs()); again != s || e != api.OK {
			t.Fatalf("%q was %q", short(again), short(s))
		}
		holdPlaces(t, g, docs)
	}
}

func TestExamples(t *testing.T) {
	s, e := segment.Build([]api.Doc{d("x", "b a1 b"), d("y", "A1")})
	if e != api.OK {
		t.Fatal(e)
	}
	g := opened(t, s)
	if i, ok := g.Find("y"); i != 1 || !ok {
		t.Error(i, ok)
	}
	if l := gathered(g.Postings("a1", 0)); !same(l, []api.Posting{p(0, 1), p(1, 0)}) {
		t.Error(l)
	}
	if l := gathered(g.Postings("a1", 1)); !same(l, []api.Posting{p(1, 0)}) {
		t.Error(l)
	}
	if l := gathered(g.Postings("b", 0)); !same(l, []api.Posting{p(0, 0, 2)}) {
		t.Error(l)
	}
	if l := g.Terms(""); !slices.Equal(l, []string{"a1", "b"}) {
		t.Error(l)
	}
	if s, e := segment.Build(nil); s != "" || e != api.ErrMany {
		t.Error(s, e)
	}
	if s, e := segment.Build([]api.Doc{d("x", ""), d("x", "")}); s != "" || e != api.ErrArg {
		t.Error(s, e)
	}
	if g, e := segment.Open(""); g != nil || e != api.ErrForm {
		t.Error(g, e)
	}
}
