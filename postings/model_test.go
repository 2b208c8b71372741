package postings_test

import (
	"fmt"
	"math/rand"
	"slices"
	"strings"
	"testing"

	"codex/api"
	"codex/postings"
)

// The document's words, written down without the package's own code, and without wire's.

func p(doc int, pos ...int) api.Posting { return api.Posting{Doc: doc, Pos: pos} }

func inBounds(l []int, below int) bool {
	return !slices.ContainsFunc(l, func(v int) bool { return v < 0 || v >= below })
}

func rising(l []int) bool {
	for i := range l {
		if i > 0 && l[i-1] >= l[i] {
			return false
		}
	}
	return true
}

func docsOf(l []api.Posting) []int {
	var docs []int
	for _, x := range l {
		docs = append(docs, x.Doc)
	}
	return docs
}

func modelRight(l []api.Posting) bool {
	if len(l) > 500 || !rising(docsOf(l)) || !inBounds(docsOf(l), 500) {
		return false
	}
	for _, x := range l {
		if len(x.Pos) < 1 || len(x.Pos) > 2000 || !rising(x.Pos) || !inBounds(x.Pos, 2000) {
			return false
		}
	}
	return true
}

// numberBytes is one number as Var (B3 of 02-wire.md) writes it.
func numberBytes(v int) string {
	if v < 128 {
		return string([]byte{byte(v)})
	}
	return string([]byte{byte(v%128 + 128)}) + numberBytes(v/128)
}

func bytesOf(numbers []int) string {
	var b strings.Builder
	for _, v := range numbers {
		b.WriteString(numberBytes(v))
	}
	return b.String()
}

func lessAhead(l []int, i int) int {
	if i == 0 {
		return l[0] + 1
	}
	return l[i] - l[i-1]
}

// postingNumbers are those of one posting, of which the Doc is so far behind the one ahead.
func postingNumbers(far int, pos []int) []int {
	l := []int{far, len(pos)}
	for i := range pos {
		l = append(l, lessAhead(pos, i))
	}
	return l
}

// sections are all numbers of a list's bytes: how many postings, the skips (two numbers each), and of each posting its own. The list need not be right, but no number may be below 0.
func sections(l []api.Posting) (skips []int, each [][]int) {
	docs := docsOf(l)
	for i, x := range l {
		each = append(each, postingNumbers(lessAhead(docs, i), x.Pos))
	}
	var lasts []int
	for i := 0; i+8 < len(l); i += 8 {
		size := 0
		for _, numbers := range each[i : i+8] {
			size += len(bytesOf(numbers))
		}
		lasts = append(lasts, docs[i+7])
		skips = append(skips, lessAhead(lasts, len(lasts)-1), size)
	}
	return skips, each
}

func allNumbers(l []api.Posting) []int {
	skips, each := sections(l)
	return slices.Concat([]int{len(l)}, skips, slices.Concat(each...))
}

func modelPack(l []api.Posting) string { return bytesOf(allNumbers(l)) }

// modelReader reads numbers, each one strictly as Var writes it. No number that it need read has more than five bytes.
type modelReader struct {
	s     string
	at    int
	wrong bool
}

func (r *modelReader) number() int {
	v, unit, first := 0, 1, r.at
	for r.at < len(r.s) && r.at < first+5 {
		c := int(r.s[r.at])
		r.at++
		if c < 128 {
			r.wrong = r.wrong || c == 0 && r.at > first+1
			return v + c*unit
		}
		v, unit = v+(c-128)*unit, unit*128
	}
	r.wrong = true
	return 0
}

func (r *modelReader) numbers(n int) []int {
	var l []int
	for range n {
		if r.wrong {
			return nil
		}
		l = append(l, r.number())
	}
	return l
}

// modelUnpack reads bytes one number after the other, and holds the skips against where the postings ended.
func modelUnpack(s string) ([]api.Posting, bool) {
	r := &modelReader{s: s}
	n := r.number()
	if r.wrong || n > 500 {
		return nil, false
	}
	skips := r.numbers(max(n-1, 0) / 8 * 2)
	var l []api.Posting
	doc, ahead, begin, told := -1, -1, r.at, 0
	for i := 0; i < n && !r.wrong; i++ {
		if i > 0 && i%8 == 0 {
			if skips[told] != doc-ahead || skips[told+1] != r.at-begin {
				return nil, false
			}
			ahead, begin, told = doc, r.at, told+2
		}
		doc += r.number()
		x := p(doc)
		pos := -1
		for _, v := range r.numbers(r.number()) {
			pos += v
			x.Pos = append(x.Pos, pos)
		}
		l = append(l, x)
	}
	if r.wrong || r.at != len(s) || !modelRight(l) {
		return nil, false
	}
	return l, true
}

func modelFrom(l []api.Posting, doc int) []api.Posting {
	for i, x := range l {
		if x.Doc >= doc {
			return l[i:]
		}
	}
	return nil
}

func same(l, other []api.Posting) bool {
	return slices.EqualFunc(l, other, func(x, y api.Posting) bool { return x.Doc == y.Doc && slices.Equal(x.Pos, y.Pos) })
}

func short(x any) string {
	s := fmt.Sprint(x)
	return s[:min(len(s), 300)]
}

func copied(l []api.Posting) []api.Posting {
	var other []api.Posting
	for _, x := range l {
		other = append(other, p(x.Doc, slices.Clone(x.Pos)...))
	}
	return other
}

func gathered(s string, doc int) []api.Posting {
	var l []api.Posting
	for x := range postings.From(s, doc) {
		l = append(l, x)
	}
	return l
}

// holdList holds Right and Pack of any list against the model, and that the list is as it was.
func holdList(t *testing.T, l []api.Posting) {
	t.Helper()
	was, right := copied(l), modelRight(l)
	if ok := postings.Right(l); ok != right {
		t.Errorf("Right(%s): %v", short(l), ok)
	}
	want, err := "", api.ErrArg
	if right {
		want, err = modelPack(l), api.OK
	}
	if s, e := postings.Pack(l); s != want || e != err {
		t.Errorf("Pack(%s): % .100x, %v; want % .100x, %v", short(l), s, e, want, err)
	}
	if !same(l, was) {
		t.Errorf("%s was %s", short(l), short(was))
	}
}

// holdRight holds all that is told of a right list and of its bytes.
func holdRight(t *testing.T, l []api.Posting) {
	t.Helper()
	if !modelRight(l) {
		t.Fatalf("%s is not right", short(l))
	}
	holdList(t, l)
	s := modelPack(l)
	if x, e := postings.Unpack(s); !same(x, l) || e != api.OK {
		t.Errorf("Unpack(% .100x): %s, %v; want %s", s, short(x), e, short(l))
	}
	if n := postings.Count(s); n != len(l) {
		t.Errorf("Count(% .100x): %d; want %d", s, n, len(l))
	}
	holdFrom(t, s, l, 0)
}

func holdFrom(t *testing.T, s string, l []api.Posting, doc int) {
	t.Helper()
	if x, want := gathered(s, doc), modelFrom(l, doc); !same(x, want) {
		t.Errorf("From(% .100x, %d): %s; want %s", s, doc, short(x), short(want))
	}
}

// holdBytes holds Unpack of any bytes against the model, and that the others answer.
func holdBytes(t *testing.T, s string) {
	t.Helper()
	l, e := postings.Unpack(s)
	want, right := modelUnpack(s)
	if right {
		holdRight(t, want)
		if modelPack(want) != s {
			t.Fatalf("% .100x is read as %s", s, short(want))
		}
		return
	}
	if len(l) != 0 || e != api.ErrForm {
		t.Errorf("Unpack(% .100x): %s, %v; want api.ErrForm", s, short(l), e)
	}
	goOver(s)
}

// wantForm is bytes that are not of a right list, by what the test knows of them.
func wantForm(t *testing.T, s string) {
	t.Helper()
	if l, right := modelUnpack(s); right {
		t.Fatalf("% .100x is of %s", s, short(l))
	}
	holdBytes(t, s)
}

// goOver asks what may answer as it will, but has to answer.
func goOver(s string) {
	postings.Count(s)
	for _, doc := range []int{-1 << 63, 0, 127, 1<<63 - 1} {
		for range postings.From(s, doc) {
		}
		for range postings.From(s, doc) {
			break
		}
	}
}

// row is n postings of one place each, their Docs so far from one another.
func row(n, first, far int) []api.Posting {
	var l []api.Posting
	for i := range n {
		l = append(l, p(first+i*far, i))
	}
	return l
}

// places are n of them that stand beside one another.
func places(n, first int) []int {
	var l []int
	for i := range n {
		l = append(l, first+i)
	}
	return l
}

// chosenRising is at most n numbers that rise, below a bound.
func chosenRising(r *rand.Rand, n, below int) []int {
	last := below
	if r.Intn(2) == 0 {
		last = min(below, n+r.Intn(3*n+1))
	}
	l := r.Perm(last)
	l = l[:min(n, last)]
	if shift := r.Intn(3); shift > 0 {
		for i := range l {
			l[i] += (below - last) * shift / 2
		}
	}
	slices.Sort(l)
	return l
}

// chosenList is a right list of so many postings; most have few places, some very many.
func chosenList(r *rand.Rand, n int) []api.Posting {
	var l []api.Posting
	for _, doc := range chosenRising(r, n, 500) {
		many := 1 + r.Intn(4)
		switch r.Intn(40) {
		case 0:
			many = 1 + r.Intn(2000)
		case 1, 2, 3:
			many = 120 + r.Intn(20)
		}
		l = append(l, p(doc, chosenRising(r, many, 2000)...))
	}
	return l
}
