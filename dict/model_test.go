package dict_test

import (
	"fmt"
	"math/rand"
	"slices"
	"strings"
	"testing"

	"codex/api"
	"codex/dict"
)

// The document's words, written down without the package's own code, and without wire's.

const (
	mostEntries = 1048576
	mostValue   = 4194304
)

func e(term, value string) dict.Entry { return dict.Entry{Term: term, Value: value} }

// below tells whether a term stands ahead of another one, byte by byte.
func below(s, other string) bool {
	for i := range len(other) {
		if i == len(s) || s[i] != other[i] {
			return i == len(s) || s[i] < other[i]
		}
	}
	return false
}

func modelRight(l []dict.Entry) bool {
	if len(l) > mostEntries {
		return false
	}
	for i, x := range l {
		if len(x.Term) < 1 || len(x.Term) > 40 || len(x.Value) > mostValue || i > 0 && !below(l[i-1].Term, x.Term) {
			return false
		}
	}
	return true
}

// numberBytes is one number as Var (B3 of 02-wire.md) writes it.
func numberBytes(v int) string {
	if v < 128 {
		return string([]byte{byte(v)})
	}
	return string([]byte{byte(v%128 + 128)}) + numberBytes(v/128)
}

func textBytes(s string) string { return numberBytes(len(s)) + s }

// bytesOf is the bytes of pieces: an int is a number, a string is bytes as they are.
func bytesOf(pieces []any) string {
	var b strings.Builder
	for _, x := range pieces {
		switch x := x.(type) {
		case int:
			b.WriteString(numberBytes(x))
		case string:
			b.WriteString(x)
		}
	}
	return b.String()
}

// sharedFront is as many bytes as two terms have alike.
func sharedFront(s, other string) int {
	for n := len(s); n > 0; n-- {
		if strings.HasPrefix(other, s[:n]) {
			return n
		}
	}
	return 0
}

// entryPieces is one entry that has so many bytes of its Term from the one ahead.
func entryPieces(x dict.Entry, shared int) []any {
	end := x.Term[shared:]
	return []any{shared, len(end), end, len(x.Value), x.Value}
}

func blockPieces(l []dict.Entry) []any {
	var pieces []any
	for i, x := range l {
		shared := 0
		if i > 0 {
			shared = sharedFront(l[i-1].Term, x.Term)
		}
		pieces = append(pieces, entryPieces(x, shared)...)
	}
	return pieces
}

// markPieces is what the index has of one block.
func markPieces(first string, size int) []any { return []any{len(first), first, size} }

// laidOut is a list's pieces, its blocks of as many entries as size tells. The list need not be right.
func laidOut(l []dict.Entry, size int) []any {
	var index, blocks []any
	for part := range slices.Chunk(l, size) {
		pieces := blockPieces(part)
		index = append(index, markPieces(part[0].Term, len(bytesOf(pieces)))...)
		blocks = append(blocks, pieces...)
	}
	return slices.Concat([]any{len(l)}, index, blocks)
}

func modelPieces(l []dict.Entry) []any { return laidOut(l, 16) }

func modelPack(l []dict.Entry) string { return bytesOf(modelPieces(l)) }

// modelReader reads numbers, each one strictly as Var writes it, and texts. No number that it need read has more than five bytes.
type modelReader struct {
	s     string
	at    int
	wrong bool
}

func (r *modelReader) number() int {
	v, unit, first := 0, 1, r.at
	for r.at < len(r.s) && r.at < first+5 {
		c := int(r.s[r.at])
		r.at++
		if c < 128 {
			r.wrong = r.wrong || c == 0 && r.at > first+1
			return v + c*unit
		}
		v, unit = v+(c-128)*unit, unit*128
	}
	r.wrong = true
	return 0
}

func (r *modelReader) text() string {
	n := r.number()
	if r.wrong || n > len(r.s)-r.at {
		r.wrong = true
		return ""
	}
	r.at += n
	return r.s[r.at-n : r.at]
}

// entry is the next one; ahead is the Term ahead of it in its block.
func (r *modelReader) entry(ahead string) dict.Entry {
	shared := r.number()
	end := r.text()
	value := r.text()
	if r.wrong || shared > len(ahead) {
		r.wrong = true
		return e("", "")
	}
	x := e(ahead[:shared]+end, value)
	r.wrong = sharedFront(ahead, x.Term) != shared
	return x
}

// modelUnpack reads bytes one thing after the other, and holds the index against the blocks that then stand there.
func modelUnpack(s string) ([]dict.Entry, bool) {
	r := &modelReader{s: s}
	n := r.number()
	var firsts []string
	var sizes []int
	for i := 0; i < n && !r.wrong; i += 16 {
		firsts = append(firsts, r.text())
		sizes = append(sizes, r.number())
	}
	var l []dict.Entry
	for k := 0; k < len(firsts) && !r.wrong; k++ {
		begin, ahead := r.at, ""
		for i := k * 16; i < min(n, k*16+16) && !r.wrong; i++ {
			l = append(l, r.entry(ahead))
			ahead = l[i].Term
		}
		r.wrong = r.wrong || l[k*16].Term != firsts[k] || r.at-begin != sizes[k]
	}
	if r.wrong || r.at != len(s) || !modelRight(l) {
		return nil, false
	}
	return l, true
}

func modelGet(l []dict.Entry, term string) (string, bool) {
	for _, x := range l {
		if x.Term == term {
			return x.Value, true
		}
	}
	return "", false
}

func modelPrefix(l []dict.Entry, prefix string) []dict.Entry {
	var found []dict.Entry
	for _, x := range l {
		if len(x.Term) >= len(prefix) && x.Term[:len(prefix)] == prefix {
			found = append(found, x)
		}
	}
	return found
}

func short(x any) string {
	s := fmt.Sprintf("%.300q", x)
	return s[:min(len(s), 300)]
}

// holdList holds Right and Pack of any list against the model, and that the list is as it was.
func holdList(t *testing.T, l []dict.Entry) {
	t.Helper()
	was, right := slices.Clone(l), modelRight(l)
	if ok := dict.Right(l); ok != right {
		t.Errorf("Right(%s): %v", short(l), ok)
	}
	want, err := "", api.ErrArg
	if right {
		want, err = modelPack(l), api.OK
	}
	if s, e := dict.Pack(l); s != want || e != err {
		t.Errorf("Pack(%s): % .100x, %v; want % .100x, %v", short(l), s, e, want, err)
	}
	if !slices.Equal(l, was) {
		t.Errorf("%s was %s", short(l), short(was))
	}
}

// holdRight holds all that is told of a right list and of its bytes, but for what may be asked of them.
func holdRight(t *testing.T, l []dict.Entry) {
	t.Helper()
	if !modelRight(l) {
		t.Fatalf("%s is not right", short(l))
	}
	holdList(t, l)
	s := modelPack(l)
	if x, e := dict.Unpack(s); !slices.Equal(x, l) || e != api.OK {
		t.Errorf("Unpack(% .100x): %s, %v; want %s", s, short(x), e, short(l))
	}
}

// holdAsked holds Get and Prefix of a right list's bytes.
func holdAsked(t *testing.T, l []dict.Entry, asked ...string) {
	t.Helper()
	s := modelPack(l)
	for _, x := range asked {
		want, there := modelGet(l, x)
		if v, ok := dict.Get(s, x); v != want || ok != there {
			t.Errorf("Get(% .100x, %q): %.100q, %v; want %.100q, %v", s, x, v, ok, want, there)
		}
		if found, want := dict.Prefix(s, x), modelPrefix(l, x); !slices.Equal(found, want) {
			t.Errorf("Prefix(% .100x, %q): %s; want %s", s, x, short(found), short(want))
		}
	}
}

// holdAll holds a right list, and asks it for all that lies about its terms.
func holdAll(t *testing.T, l []dict.Entry) {
	t.Helper()
	holdRight(t, l)
	holdAsked(t, l, strangers()...)
	for _, x := range l {
		holdAsked(t, l, about(x.Term)...)
	}
}

// strangers are texts of which most are no terms of a list.
func strangers() []string {
	return []string{
		"", "\x00", "\x00\x00", "\x01", " ", "0", "9", "A", "a", "b", "m", "t", "z", "zz", "\x7f", "\x80", "\xff", "\xff\xff", "\xc3\xa9", strings.Repeat("\x00", 40), strings.Repeat("a", 39), strings.Repeat("a", 40),
		strings.Repeat("a", 41), strings.Repeat("\xff", 40), strings.Repeat("\xff", 41), strings.Repeat("m", 5000),
	}
}

// about are a term, all that it begins with, and terms that stand close to it on both sides.
func about(term string) []string {
	l := []string{term + "\x00", term + "a", term + "\xff", "\x00" + term, term + term}
	for i := range len(term) {
		front, c := term[:i], term[i]
		l = append(l, term[:i+1], front+string([]byte{c - 1}), front+string([]byte{c + 1}), front+string([]byte{c - 1})+"\xff", front+string([]byte{c})+"\x00")
	}
	return l
}

// holdBytes holds Unpack of any bytes against the model, and that the others answer.
func holdBytes(t *testing.T, s string) {
	t.Helper()
	l, e := dict.Unpack(s)
	want, right := modelUnpack(s)
	if right {
		holdRight(t, want)
		if modelPack(want) != s {
			t.Fatalf("% .100x is read as %s", s, short(want))
		}
		return
	}
	if len(l) != 0 || e != api.ErrForm {
		t.Errorf("Unpack(% .100x): %s, %v; want api.ErrForm", s, short(l), e)
	}
	ask(t, s)
}

// wantForm is bytes that are not of a right list, by what the test knows of them.
func wantForm(t *testing.T, s string) {
	t.Helper()
	if l, right := modelUnpack(s); right {
		t.Fatalf("% .100x is of %s", s, short(l))
	}
	holdBytes(t, s)
}

// ask asks bytes that may answer as they will, but have to answer; what is not there has no value.
func ask(t *testing.T, s string) {
	t.Helper()
	for _, x := range []string{"", "a", "ab", "t07", "t16", "\xff"} {
		if v, ok := dict.Get(s, x); v != "" && !ok {
			t.Errorf("Get(% .100x, %q): %q, false", s, x, v)
		}
		dict.Prefix(s, x)
	}
}

// row is n entries of the terms t00, t01, ..; with ever longer values.
func row(n int) []dict.Entry {
	var l []dict.Entry
	for i := range n {
		l = append(l, e(fmt.Sprintf("t%02d", i), strings.Repeat("v", i%20)))
	}
	slices.SortFunc(l, func(x, y dict.Entry) int { return strings.Compare(x.Term, y.Term) })
	return l
}

// ofTerms is entries of some terms, each with another value.
func ofTerms(terms ...string) []dict.Entry {
	var l []dict.Entry
	for i, term := range terms {
		l = append(l, e(term, fmt.Sprint(i)))
	}
	return l
}

// ladder is n terms, each of which begins with the one ahead.
func ladder(n int) []dict.Entry {
	var l []dict.Entry
	for i := range n {
		l = append(l, e(strings.Repeat("a", i+1), strings.Repeat("b", i)))
	}
	return l
}

// chosenTerm is one of up to 40 bytes, of few or of many letters.
func chosenTerm(r *rand.Rand, letters string) string {
	n := 1 + r.Intn(4)
	switch r.Intn(8) {
	case 0:
		n = 40 - r.Intn(3)
	case 1:
		n = 1 + r.Intn(40)
	}
	b := make([]byte, n)
	for i := range b {
		b[i] = letters[r.Intn(len(letters))]
	}
	return string(b)
}

// chosenList is a right list of at most so many entries.
func chosenList(r *rand.Rand, most int) []dict.Entry {
	letters := []string{"ab", "abcdefghij", "\x00\x01a\x7f\x80\xfe\xff"}[r.Intn(3)]
	terms := map[string]bool{}
	for range most {
		term := chosenTerm(r, letters)
		terms[term] = true
		if longer := term + chosenTerm(r, letters); len(longer) <= 40 && len(terms) < most {
			terms[longer] = true
		}
	}
	var l []dict.Entry
	for term := range terms {
		l = append(l, e(term, ""))
	}
	slices.SortFunc(l, func(x, y dict.Entry) int { return strings.Compare(x.Term, y.Term) })
	l = l[:min(len(l), most)]
	for i := range l {
		l[i].Value = strings.Repeat("x", r.Intn([]int{1, 4, 130, 300}[r.Intn(4)]))
	}
	return l
}
