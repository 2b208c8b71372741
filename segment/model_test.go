package segment_test

import (
	"encoding/binary"
	"fmt"
	"hash/crc32"
	"iter"
	"math/rand"
	"slices"
	"strings"
	"testing"
	"unicode/utf8"

	"codex/api"
	"codex/segment"
	"codex/token"
)

// The document's words, written down without the package's own code, and without wire's, utf's, postings' and dict's. Which words a text has is token's to tell; where the tests know it themselves, they say so.

func d(id, text string) api.Doc { return api.Doc{ID: id, Text: text} }

func p(doc int, pos ...int) api.Posting { return api.Posting{Doc: doc, Pos: pos} }

func modelRight(x api.Doc) bool {
	return len(x.ID) >= 1 && len(x.ID) <= 40 && len(x.Text) <= 2000 && utf8.ValidString(x.ID) && utf8.ValidString(x.Text)
}

// numberBytes is one number as Var (B3 of 02-wire.md) writes it.
func numberBytes(v int) string { return string(binary.AppendUvarint(nil, uint64(v))) }

func textBytes(s string) string { return numberBytes(len(s)) + s }

// withSum is bytes and their Crc behind them.
func withSum(s string) string {
	return s + string(binary.LittleEndian.AppendUint32(nil, crc32.ChecksumIEEE([]byte(s))))
}

// held is a term and where it stands.
type held struct {
	term string
	l    []api.Posting
}

func modelTerms(docs []api.Doc) []string {
	var l []string
	for _, x := range docs {
		for _, word := range token.Tokens(x.Text) {
			l = append(l, word.Term)
		}
	}
	slices.Sort(l)
	return slices.Compact(l)
}

// modelHeld asks all documents for each term by itself.
func modelHeld(docs []api.Doc) []held {
	terms := modelTerms(docs)
	l := make([]held, len(terms))
	for i, x := range docs {
		for _, word := range token.Tokens(x.Text) {
			at, _ := slices.BinarySearch(terms, word.Term)
			h := &l[at]
			h.term = word.Term
			if n := len(h.l); n == 0 || h.l[n-1].Doc < i {
				h.l = append(h.l, p(i))
			}
			last := &h.l[len(h.l)-1]
			last.Pos = append(last.Pos, word.Pos)
		}
	}
	return l
}

// far is how far a number is behind the one ahead, of which there is none at first.
func far(v, ahead int, first bool) int {
	if first {
		return v + 1
	}
	return v - ahead
}

// postingsBytes is chapter 12's bytes.
func postingsBytes(l []api.Posting) string {
	var each []string
	for i, x := range l {
		s := numberBytes(far(x.Doc, l[max(i, 1)-1].Doc, i == 0)) + numberBytes(len(x.Pos))
		for k, pos := range x.Pos {
			s += numberBytes(far(pos, x.Pos[max(k, 1)-1], k == 0))
		}
		each = append(each, s)
	}
	s := numberBytes(len(l))
	for i := 8; i < len(l); i += 8 {
		s += numberBytes(far(l[i-1].Doc, l[max(i-9, 0)].Doc, i == 8)) + numberBytes(len(strings.Join(each[i-8:i], "")))
	}
	return s + strings.Join(each, "")
}

// alike is how many bytes two terms have alike at their front.
func alike(s, other string) int {
	n := min(len(s), len(other))
	for s[:n] != other[:n] {
		n--
	}
	return n
}

// dictBytes is chapter 13's bytes, with blocks of so many entries (16 are right ones).
func dictBytes(l []held, size int) string {
	var index, blocks strings.Builder
	for part := range slices.Chunk(l, size) {
		block, ahead := "", ""
		for _, x := range part {
			n := alike(ahead, x.term)
			block += numberBytes(n) + textBytes(x.term[n:]) + textBytes(postingsBytes(x.l))
			ahead = x.term
		}
		index.WriteString(textBytes(part[0].term) + numberBytes(len(block)))
		blocks.WriteString(block)
	}
	return numberBytes(len(l)) + index.String() + blocks.String()
}

// pieces are the bytes, each number and each text's bytes by themselves; the last one is the dictionary. The documents need not be right.
func pieces(docs []api.Doc, dictionary string) []string {
	l := []string{"CDXG", numberBytes(len(docs))}
	for _, x := range docs {
		l = append(l, numberBytes(len(x.ID)), x.ID, numberBytes(len(x.Text)), x.Text)
	}
	return append(l, numberBytes(len(dictionary)), dictionary)
}

func modelPieces(docs []api.Doc) []string {
	return pieces(docs, dictBytes(modelHeld(docs), 16))
}

func joined(l []string) string { return withSum(strings.Join(l, "")) }

func modelBytes(docs []api.Doc) string { return joined(modelPieces(docs)) }

// modelBuild looks for two of one ID by holding each against each.
func modelBuild(docs []api.Doc) (string, api.Errno) {
	if len(docs) < 1 || len(docs) > 500 {
		return "", api.ErrMany
	}
	for i, x := range docs {
		if !modelRight(x) || slices.ContainsFunc(docs[:i], func(y api.Doc) bool { return y.ID == x.ID }) {
			return "", api.ErrArg
		}
	}
	return modelBytes(docs), api.OK
}

// modelReader reads numbers and texts; wrong is where there are none.
type modelReader struct {
	s     string
	wrong bool
}

func (r *modelReader) number() int {
	v, n := binary.Uvarint([]byte(r.s))
	if n <= 0 || v > 1<<40 || r.s[:n] != numberBytes(int(v)) {
		r.wrong = true
		return 0
	}
	r.s = r.s[n:]
	return int(v)
}

func (r *modelReader) text() string {
	n := r.number()
	if r.wrong || n > len(r.s) {
		r.wrong = true
		return ""
	}
	s := r.s[:n]
	r.s = r.s[n:]
	return s
}

func modelOpen(s string) ([]api.Doc, api.Errno) {
	if len(s) < 8 || s[:4] != "CDXG" {
		return nil, api.ErrForm
	}
	body := s[:len(s)-4]
	if withSum(body) != s {
		return nil, api.ErrSum
	}
	r := &modelReader{s: body[4:]}
	var docs []api.Doc
	for n := r.number(); len(docs) < n && !r.wrong; {
		docs = append(docs, d(r.text(), r.text()))
	}
	r.text()
	if own, e := modelBuild(docs); r.wrong || r.s != "" || e != api.OK || own != s {
		return nil, api.ErrForm
	}
	return docs, api.OK
}

func short(x any) string {
	s := fmt.Sprintf("%.300q", x)
	return s[:min(len(s), 300)]
}

func same(l, other []api.Posting) bool {
	return slices.EqualFunc(l, other, func(x, y api.Posting) bool { return x.Doc == y.Doc && slices.Equal(x.Pos, y.Pos) })
}

func gathered(seq iter.Seq[api.Posting]) []api.Posting {
	var l []api.Posting
	for x := range seq {
		l = append(l, x)
	}
	return l
}

// holdBuild holds Right and Build against the model, and that the documents are as they were.
func holdBuild(t *testing.T, docs []api.Doc) {
	t.Helper()
	was := slices.Clone(docs)
	for _, x := range docs {
		if ok := segment.Right(x); ok != modelRight(x) {
			t.Errorf("Right(%s): %v", short(x), ok)
		}
	}
	want, err := modelBuild(docs)
	if s, e := segment.Build(docs); s != want || e != err {
		t.Errorf("Build(%s): %d bytes, %.300q, %v; want %d, %.300q, %v", short(docs), len(s), s, e, len(want), want, err)
	}
	if !slices.Equal(docs, was) {
		t.Errorf("%s was %s", short(docs), short(was))
	}
}

func wantBuild(t *testing.T, err api.Errno, docs ...api.Doc) {
	t.Helper()
	if _, e := modelBuild(docs); e != err {
		t.Fatalf("%s: %v; want %v", short(docs), e, err)
	}
	holdBuild(t, docs)
}

func opened(t *testing.T, s string) *segment.Segment {
	t.Helper()
	g, e := segment.Open(s)
	if e != api.OK || g == nil {
		t.Fatalf("Open(%.300q): %v, %v", s, g, e)
	}
	return g
}

// hold holds all that is told of documents for which there are bytes.
func hold(t *testing.T, docs []api.Doc) *segment.Segment {
	t.Helper()
	wantBuild(t, api.OK, docs...)
	g := opened(t, modelBytes(docs))
	holdSegment(t, g, docs)
	return g
}

func holdSegment(t *testing.T, g *segment.Segment, docs []api.Doc) {
	t.Helper()
	if l := g.Docs(); !slices.Equal(l, docs) {
		t.Fatalf("Docs: %s; want %s", short(l), short(docs))
	}
	holdFound(t, g, docs)
	l := modelHeld(docs)
	for _, x := range l {
		holdPostings(t, g, x, len(docs))
	}
	for _, term := range strangers() {
		if !slices.ContainsFunc(l, func(x held) bool { return x.term == term }) {
			holdPostings(t, g, held{term, nil}, len(docs))
		}
	}
	holdTerms(t, g, modelTerms(docs))
	holdPlaces(t, g, docs)
}

// holdFound asks for each document, and for IDs that stand close to its own.
func holdFound(t *testing.T, g *segment.Segment, docs []api.Doc) {
	t.Helper()
	asked := strangers()
	for _, x := range docs {
		asked = append(asked, x.ID, x.ID+"x", x.ID+"\x00", x.ID[:len(x.ID)-1], strings.ToUpper(x.ID), strings.ToLower(x.ID), x.Text)
	}
	numbers := map[string]int{}
	for i, x := range docs {
		numbers[x.ID] = i
	}
	for _, id := range asked {
		n, there := numbers[id]
		if i, ok := g.Find(id); i != n || ok != there {
			t.Errorf("Find(%q): %d, %v; want %d, %v", id, i, ok, n, there)
		}
	}
}

// holdPostings asks from each document on that has the term, from those beside it, and from far away.
func holdPostings(t *testing.T, g *segment.Segment, x held, docs int) {
	t.Helper()
	asked := []int{-1 << 63, -1, 0, 1, docs - 1, docs, 499, 500, 1<<63 - 1}
	for i, y := range x.l {
		if i < 3 || i%8 < 2 || i == len(x.l)-1 {
			asked = append(asked, y.Doc, y.Doc+1)
		}
	}
	for _, from := range asked {
		var want []api.Posting
		for _, y := range x.l {
			if y.Doc >= from {
				want = append(want, y)
			}
		}
		if l := gathered(g.Postings(x.term, from)); !same(l, want) {
			t.Errorf("Postings(%q, %d): %v; want %v", x.term, from, short(l), short(want))
		}
	}
}

// holdTerms asks for all that terms begin with, and for some with which none does.
func holdTerms(t *testing.T, g *segment.Segment, terms []string) {
	t.Helper()
	asked := strangers()
	for i, term := range terms {
		asked = append(asked, term, term+"x", term+"\x00", term[:1])
		if i < 50 {
			for n := range len(term) {
				asked = append(asked, term[:n], term[:n]+"\xff")
			}
		}
	}
	slices.Sort(asked)
	for _, prefix := range slices.Compact(asked) {
		var want []string
		for _, term := range terms {
			if strings.HasPrefix(term, prefix) {
				want = append(want, term)
			}
		}
		if l := g.Terms(prefix); !slices.Equal(l, want) {
			t.Errorf("Terms(%q): %s; want %s", prefix, short(l), short(want))
		}
	}
}

// spot is a place of a document.
type spot struct{ doc, pos int }

// holdPlaces holds G3: all terms' places together are those of the documents, each once.
func holdPlaces(t *testing.T, g *segment.Segment, docs []api.Doc) {
	t.Helper()
	terms := map[spot]string{}
	for _, term := range g.Terms("") {
		for x := range g.Postings(term, 0) {
			for _, pos := range x.Pos {
				if other, twice := terms[spot{x.Doc, pos}]; twice {
					t.Errorf("place %d of document %d is of %q and of %q", pos, x.Doc, other, term)
				}
				terms[spot{x.Doc, pos}] = term
			}
		}
	}
	for i, x := range docs {
		for _, word := range token.Tokens(x.Text) {
			if term := terms[spot{i, word.Pos}]; term != word.Term {
				t.Errorf("place %d of document %d is of %q; want %q", word.Pos, i, term, word.Term)
			}
			delete(terms, spot{i, word.Pos})
		}
	}
	if len(terms) > 0 {
		t.Errorf("places that no document has: %v", terms)
	}
}

// holdBytes holds Open of any bytes against the model.
func holdBytes(t *testing.T, s string) {
	t.Helper()
	docs, err := modelOpen(s)
	g, e := segment.Open(s)
	if e != err || (g == nil) != (e != api.OK) {
		t.Errorf("Open(%.300q): %v, %v; want %v", s, g != nil, e, err)
		return
	}
	if e == api.OK {
		holdSegment(t, g, docs)
		holdBuild(t, docs)
	}
}

// wantOpen is bytes of which the test knows what Open tells.
func wantOpen(t *testing.T, err api.Errno, s string) {
	t.Helper()
	if _, e := modelOpen(s); e != err {
		t.Fatalf("%.300q: %v; want %v", s, e, err)
	}
	holdBytes(t, s)
}

// wantForm is what stands ahead of a sum, which is right; the rest is not what Build writes.
func wantForm(t *testing.T, body ...string) {
	t.Helper()
	wantOpen(t, api.ErrForm, joined(body))
}

// strangers are texts of which most are no terms, and no IDs.
func strangers() []string {
	return []string{
		"", "\x00", " ", "a", "A", "A1", "a1", "b", "the", "The", "to", "x", "z", "zz", "zzz", "w", "fox", "FOX", "é", "É", "\xc3", "\xa9", "\xff", "0", "9", "a b", "a-b", "CDXG", "\x01x",
		strings.Repeat("a", 39), strings.Repeat("a", 40), strings.Repeat("a", 41), strings.Repeat("é", 20), strings.Repeat("é", 21), strings.Repeat("\xff", 41), strings.Repeat("m", 5000),
	}
}

// few are documents with terms alike and unlike; chapter 14's own example is among them.
func few() [][]api.Doc {
	return [][]api.Doc{
		{d("x", "b a1 b"), d("y", "A1")},
		{d("x", "")},
		{d("x", "the")},
		{d("\x00", "\x00 a1\x00b a1"), d("é", "É é Éé"), d("x y", "...")},
		{d("1", "fox foxes Fox"), d("2", "the fox, the"), d("3", ""), d("10", "foxes")},
		row(9),
		{d("k", "k0 k1 k2 k3 k4 k5 k6 k7 k8 k9 ka kb kc kd ke kf kg kh"), d("l", "ka k0")},
	}
}

// row is n documents; each has a term that all have, and one that no other has.
func row(n int) []api.Doc {
	var l []api.Doc
	for i := range n {
		l = append(l, d(fmt.Sprint("d", i), fmt.Sprint("all n", i)))
	}
	return l
}

// chosenWord is one of words that come again, of stop words, and of long ones.
func chosenWord(r *rand.Rand) string {
	switch r.Intn(6) {
	case 0:
		return []string{"the", "A", "of", "To", "with", "AND"}[r.Intn(6)]
	case 1:
		return strings.Repeat(string(rune('a'+r.Intn(3))), 38+r.Intn(5))
	case 2:
		return fmt.Sprint(r.Intn(300))
	case 3:
		return []string{"é", "É", "σ", "ς", "Σ", "Ж", "ж", "中文", "1é"}[r.Intn(9)]
	}
	b := make([]byte, 1+r.Intn(4))
	for i := range b {
		b[i] = "abxABX"[r.Intn(6)]
	}
	return string(b)
}

func chosenText(r *rand.Rand, words int) string {
	var b strings.Builder
	for range words {
		b.WriteString([]string{" ", "  ", ", ", "-", "\x00", "…", "'", "\u0301"}[r.Intn(8)])
		b.WriteString(chosenWord(r))
	}
	return firstRunes(b.String(), 2000)
}

// firstRunes is at most so many bytes of a text, no rune of which is cut.
func firstRunes(s string, most int) string {
	for len(s) > most || !utf8.ValidString(s) {
		s = s[:min(len(s)-1, most)]
	}
	return s
}

func chosenID(r *rand.Rand, i int) string {
	id := fmt.Sprint([]string{"", "d", "é", "中-", " ", "\x00", "D"}[r.Intn(7)], i)
	if r.Intn(9) == 0 {
		id += strings.Repeat([]string{"x", "é", "\U0001f600"}[r.Intn(3)], 40)
	}
	return firstRunes(id, 40)
}

// chosenDocs are n right ones of so many words at most, no two of one ID.
func chosenDocs(r *rand.Rand, n, words int) []api.Doc {
	var l []api.Doc
	for i := range n {
		l = append(l, d(chosenID(r, i), chosenText(r, r.Intn(words+1))))
	}
	r.Shuffle(n, func(i, k int) { l[i], l[k] = l[k], l[i] })
	return l
}
