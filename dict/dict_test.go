package dict_test

import (
	"fmt"
	"math/rand"
	"slices"
	"strings"
	"testing"

	"codex/api"
	"codex/dict"
)

func wantRight(t *testing.T, ok bool, l ...dict.Entry) {
	t.Helper()
	if modelRight(l) != ok {
		t.Fatalf("%s: want %v", short(l), ok)
	}
	holdList(t, l)
}

func wantBytes(t *testing.T, l []dict.Entry, want string) {
	t.Helper()
	if s, e := dict.Pack(l); s != want || e != api.OK {
		t.Errorf("Pack(%s): %q, %v; want %q", short(l), s, e, want)
	}
	holdAll(t, l)
}

// T1, of Right and Pack

func TestNoEntry(t *testing.T) {
	wantBytes(t, nil, "\x00")
	wantBytes(t, []dict.Entry{}, "\x00")
	wantBytes(t, ofTerms("a")[:0], "\x00")
}

func TestFewEntries(t *testing.T) {
	wantBytes(t, []dict.Entry{e("a", "")}, "\x01\x01a\x04\x00\x01a\x00")
	wantBytes(t, []dict.Entry{e("a", "v")}, "\x01\x01a\x05\x00\x01a\x01v")
	wantBytes(t, []dict.Entry{e("\x00", "\x00")}, "\x01\x01\x00\x05\x00\x01\x00\x01\x00")
	wantBytes(t, []dict.Entry{e("a", "1"), e("b", "2")}, "\x02\x01a\x0a\x00\x01a\x011\x00\x01b\x012")
	wantBytes(t, []dict.Entry{e("a", "1"), e("aa", "2")}, "\x02\x01a\x0a\x00\x01a\x011\x01\x01a\x012")
	wantBytes(t, []dict.Entry{e("abc", "1"), e("abd", ""), e("ac", "2"), e("b", "")}, "\x04\x03abc\x14\x00\x03abc\x011\x02\x01d\x00\x01\x01c\x012\x00\x01b\x00")
	wantBytes(t, []dict.Entry{e("\xfe\xff", ""), e("\xff", "")}, "\x02\x02\xfe\xff\x09\x00\x02\xfe\xff\x00\x00\x01\xff\x00")
	wantBytes(t, []dict.Entry{e("é", "x")}, "\x01\x02\xc3\xa9\x06\x00\x02\xc3\xa9\x01x")
	wantBytes(t, []dict.Entry{e("è", "y"), e("é", "x")}, "\x02\x02\xc3\xa8\x0b\x00\x02\xc3\xa8\x01y\x01\x01\xa9\x01x")
}

func TestLengthsOfTerms(t *testing.T) {
	for n := 1; n <= 40; n++ {
		for _, c := range []string{"\x00", "a", "\xff"} {
			term := strings.Repeat(c, n)
			wantRight(t, true, e(term, "v"))
			holdAll(t, []dict.Entry{e(term, "v")})
			wantRight(t, false, e("", ""), e(term, "v"))
			wantRight(t, false, e(term, "v"), e("", ""))
		}
	}
	for _, n := range []int{0, 41, 42, 64, 80, 127, 128, 255, 256, 296, 1000, 1 << 16, 1<<16 + 1} {
		term := strings.Repeat("k", n)
		wantRight(t, false, e(term, "v"))
		wantRight(t, false, e(term, ""))
		wantRight(t, false, e("a", ""), e(term, "v"), e("z", ""))
		wantRight(t, false, append(ofTerms("a", "b"), e(term, "v"))...)
		wantRight(t, false, append([]dict.Entry{e(term, "v")}, ofTerms("p", "q")...)...)
		wantRight(t, false, append(ladder(40), e(term, "v"))...)
	}
}

func TestEachByteAsATerm(t *testing.T) {
	var all []dict.Entry
	for c := range 256 {
		x := e(string([]byte{byte(c)}), "v")
		holdAll(t, []dict.Entry{x})
		holdAll(t, []dict.Entry{x, e(x.Term+"k", "w")})
		all = append(all, x)
	}
	holdAll(t, all)
	holdAll(t, all[7:])
}

// In a long list one Term alone is too short or too long.
func TestOneTermOfAnotherLength(t *testing.T) {
	for i := range 40 {
		l := row(40)
		l[i].Term += strings.Repeat("x", 37)
		wantRight(t, true, l...)
		holdRight(t, l)
		l[i].Term += "x"
		wantRight(t, false, l...)
		l[i].Term = ""
		wantRight(t, false, l...)
	}
}

func TestTermsRise(t *testing.T) {
	rising := []string{
		"\x00", "\x00\x00", "\x00\x01", "\x01", " ", "0", "1", "10", "2", "A", "Z", "a", "a\x00", "a\x00b", "aa", "ab", "aba", "abb", "b", "z", "\x7f", "\x80", "\xc3\xa9", "\xfe\xff", "\xff", "\xff\x00", "\xff\xff",
	}
	holdAll(t, ofTerms(rising...))
	for i, x := range rising {
		for k, y := range rising {
			wantRight(t, i < k, ofTerms(x, y)...)
			wantRight(t, i < k && x != "\x00" && y != "\xff\xff", ofTerms("\x00", x, y, "\xff\xff")...)
			if i < k {
				holdAll(t, ofTerms(x, y))
			}
		}
	}
}

// In a list of so many one alone stands still, or falls.
func TestOneTermDoesNotRise(t *testing.T) {
	for _, n := range []int{2, 3, 15, 16, 17, 18, 32, 33, 34, 49, 100} {
		for i := 1; i < n; i++ {
			l := row(n)
			l[i].Term = l[i-1].Term
			wantRight(t, false, l...)
			l = row(n)
			l[i].Term, l[i-1].Term = l[i-1].Term, l[i].Term
			wantRight(t, false, l...)
			l = row(n)
			l[i].Term = l[i-1].Term + "x"
			wantRight(t, true, l...)
			l[i].Term = l[i-1].Term[:2]
			wantRight(t, false, l...)
		}
	}
}

func TestAllListsOfFewTerms(t *testing.T) {
	few := []string{"", "\x00", "a", "a\x00", "aa", "ab", "b", "\xff", strings.Repeat("a", 40), strings.Repeat("a", 41)}
	for _, x := range few {
		holdList(t, ofTerms(x))
		for _, y := range few {
			holdList(t, ofTerms(x, y))
			for _, z := range few {
				holdList(t, ofTerms(x, y, z))
			}
		}
	}
}

func TestAllRightListsOfFewTerms(t *testing.T) {
	few := []string{"\x00", "a", "a\x00", "aa", "aab", "ab", "b", "\xff"}
	for set := range 1 << len(few) {
		var terms []string
		for i, x := range few {
			if set>>i&1 == 1 {
				terms = append(terms, x)
			}
		}
		l := ofTerms(terms...)
		holdRight(t, l)
		holdAsked(t, l, append(few, "", "aac", "ac", "\x00\x00", "\x01", "c", "\xff\xff")...)
	}
}

func TestLengthsOfValues(t *testing.T) {
	for _, n := range []int{0, 1, 2, 126, 127, 128, 129, 255, 256, 16382, 16383, 16384, 16385, 65535, 65536, 1 << 20, 1<<21 - 1, 1 << 21, 1<<22 - 1, 1 << 22} {
		v := strings.Repeat("v", n)
		wantRight(t, true, e("a", v))
		holdAll(t, []dict.Entry{e("a", v), e("b", "x")})
		holdRight(t, []dict.Entry{e("a", "x"), e("b", v)})
	}
	for _, n := range []int{1<<22 + 1, 1<<22 + 2, 1<<23 - 1, 1 << 23, 1<<24 + 5} {
		v := strings.Repeat("v", n)
		wantRight(t, false, e("a", v))
		wantRight(t, false, e("a", v), e("b", "x"))
		wantRight(t, false, e("a", "x"), e("b", v))
		wantRight(t, false, e("a", "x"), e("b", v), e("c", "x"))
	}
}

// What is right of a Value is not right of a Term; and a Value may be any bytes, those of a list, too.
func TestValuesAreNoTerms(t *testing.T) {
	holdAll(t, []dict.Entry{e("a", strings.Repeat("z", 41)), e("b", ""), e("c", "a"), e("d", "a")})
	holdAll(t, []dict.Entry{e("a", modelPack(row(40))), e("aa", "\x00\x01b\x00"), e("b", strings.Repeat("\xff", 12)), e("c", "\x00\x00\x00")})
	wantRight(t, false, e("c", "a"), e("b", "b"), e("a", "c"))
}

func TestHowManyEntries(t *testing.T) {
	for n := range 101 {
		holdAll(t, row(n))
	}
	for _, n := range []int{126, 127, 128, 129, 255, 256, 257, 2047, 2048, 2049} {
		l := row(n)
		holdRight(t, l)
		for _, i := range []int{0, 1, 15, 16, 17, n / 2, n - 2, n - 1} {
			holdAsked(t, l, about(l[i].Term)...)
		}
	}
}

// many is n entries whose Terms have four bytes.
func many(n int) []dict.Entry {
	l := make([]dict.Entry, n)
	for i := range l {
		l[i].Term = string([]byte{byte(i >> 18), byte(i>>12&63 + 1), byte(i>>6&63 + 1), byte(i&63 + 1)})
	}
	return l
}

func TestMostEntries(t *testing.T) {
	l := many(mostEntries + 1)
	if dict.Right(l) || !dict.Right(l[:mostEntries]) {
		t.Error("Right of the most entries, and of one more")
	}
	if s, e := dict.Pack(l); s != "" || e != api.ErrArg {
		t.Errorf("Pack of too many: %d bytes, %v", len(s), e)
	}
	if x, e := dict.Unpack(modelPack(l)); len(x) != 0 || e != api.ErrForm {
		t.Errorf("Unpack of too many: %d, %v", len(x), e)
	}
	l = l[:mostEntries]
	s := modelPack(l)
	if own, e := dict.Pack(l); own != s || e != api.OK {
		t.Errorf("Pack of the most: %d bytes, %v; want %d", len(own), e, len(s))
	}
	if x, e := dict.Unpack(s); !slices.Equal(x, l) || e != api.OK {
		t.Errorf("Unpack of the most: %d, %v", len(x), e)
	}
	for _, i := range []int{0, 1, 16, 100000, mostEntries - 17, mostEntries - 16, mostEntries - 1} {
		if v, ok := dict.Get(s, l[i].Term); v != "" || !ok {
			t.Errorf("Get of %d: %q, %v", i, v, ok)
		}
		if found := dict.Prefix(s, l[i].Term); !slices.Equal(found, l[i:i+1]) {
			t.Errorf("Prefix of %d: %s", i, short(found))
		}
	}
	if found := dict.Prefix(s, ""); !slices.Equal(found, l) {
		t.Errorf("Prefix of nothing: %d", len(found))
	}
}

func TestBlocks(t *testing.T) {
	one := func(i int) string { return string([]byte{'a' + byte(i)}) }
	flat := func(n int) []dict.Entry {
		var l []dict.Entry
		for i := range n {
			l = append(l, e(one(i), ""))
		}
		return l
	}
	blocks := func(from, to int) string {
		var b strings.Builder
		for i := from; i < to; i++ {
			b.WriteString("\x00\x01" + one(i) + "\x00")
		}
		return b.String()
	}
	wantBytes(t, flat(15), "\x0f\x01a\x3c"+blocks(0, 15))
	wantBytes(t, flat(16), "\x10\x01a\x40"+blocks(0, 16))
	wantBytes(t, flat(17), "\x11\x01a\x40\x01q\x04"+blocks(0, 17))
	wantBytes(t, flat(32), "\x20\x01a\x40\x01q\x40"+blocks(0, 32))
	wantBytes(t, flat(33), "\x21\x01a\x40\x01q\x40\x01\x81\x04"+blocks(0, 33))
	// A block's first Term is whole, however it is like the one ahead.
	l := ladder(18)
	s := "\x12\x01a\xb8\x01\x11" + strings.Repeat("a", 17) + "\x39"
	for i, x := range l[:16] {
		s += string([]byte{byte(i), 1, 'a', byte(i)}) + x.Value
	}
	s += "\x00\x11" + strings.Repeat("a", 17) + "\x10" + strings.Repeat("b", 16) + "\x11\x01a\x11" + strings.Repeat("b", 17)
	wantBytes(t, l, s)
}

// Each number of the bytes is once one of one byte, and once one of two.
func TestNumbersOfTwoBytes(t *testing.T) {
	for _, n := range []int{0, 1, 125, 126, 127, 128, 129, 130, 255, 256, 257} {
		for i := range 35 {
			l := row(35)
			for k := range l {
				l[k].Value = ""
			}
			l[i].Value = strings.Repeat("\x80", n)
			holdRight(t, l)
			holdAsked(t, l, l[max(i-1, 0)].Term, l[i].Term, l[min(i+1, 34)].Term, "t", "t1", "t3")
		}
	}
	for size := 100; size < 150; size++ { // bytes of a block
		l := row(20)
		for i := range l {
			l[i].Value = ""
		}
		bare := len(bytesOf(blockPieces(l[:16])))
		l[3].Value = strings.Repeat("x", size-bare)
		if pieces := modelPieces(l); pieces[3] != size {
			t.Fatal(size, pieces[3])
		}
		holdAll(t, l)
	}
}

func TestSharedFronts(t *testing.T) {
	for n := range 40 {
		front := strings.Repeat("k", n)
		var terms []string
		for _, c := range []string{"\x00", "\x01", "a", "j", "l", "z", "\x80", "\xff"} {
			terms = append(terms, front+c)
		}
		holdAll(t, ofTerms(terms...))
		if n < 39 {
			holdAll(t, ofTerms(front+"a", front+"ab", front+"ac", front+"b", front+"ba"))
		}
	}
	holdAll(t, ladder(40))
	holdAll(t, ladder(40)[3:35])
}

// T1, of Unpack

// chosenFew are right lists that are short enough for each of their bytes to be tried.
func chosenFew() [][]dict.Entry {
	return [][]dict.Entry{
		nil, {e("a", "")}, {e("ab", "1"), e("abc", "2")}, {e("\x00", "\x00"), e("\xff", "\xff\xff")}, ofTerms("a", "aa", "aab", "ab", "b"), {e("a", strings.Repeat("x", 128)), e("b", "")},
		{e(strings.Repeat("m", 40), "v")}, {e("a", "\x00\x01b\x00"), e("b", "")}, row(15), row(16), row(17), row(18), row(33), ladder(17)[1:], ladder(18),
	}
}

func TestBytesCutShort(t *testing.T) {
	for _, l := range append(chosenFew(), row(200), ladder(40)) {
		s := modelPack(l)
		for i := range len(s) {
			wantForm(t, s[:i])
		}
	}
}

func TestMoreBehind(t *testing.T) {
	for _, l := range append(chosenFew(), row(200), ladder(40)) {
		s := modelPack(l)
		for c := range 256 {
			wantForm(t, s+string([]byte{byte(c)}))
		}
		wantForm(t, s+"\x00\x01z\x00")
		wantForm(t, s+s)
		wantForm(t, s+strings.Repeat("\x00", 100))
	}
}

func TestEachByteMadeAnother(t *testing.T) {
	for _, l := range chosenFew() {
		s := modelPack(l)
		for i := range len(s) {
			for c := range 256 {
				if len(s) < 50 || c%13 == i%13 || c == int(s[i])^128 {
					holdBytes(t, s[:i]+string([]byte{byte(c)})+s[i+1:])
				}
			}
		}
	}
}

func TestBytesPutInAndTakenOut(t *testing.T) {
	for _, l := range chosenFew() {
		s := modelPack(l)
		for i := range len(s) {
			holdBytes(t, s[:i]+s[i+1:])
			for _, c := range []byte{0, 1, 2, 3, 16, 127, 128, 129, 255, 'a', s[i]} {
				holdBytes(t, s[:i]+string([]byte{c})+s[i:])
			}
		}
	}
}

func TestAllBytesOfFew(t *testing.T) {
	wantForm(t, "")
	few := []byte{0, 1, 2, 3, 4, 5, 17, 'a', 'b', 127, 128, 255}
	for c := range 256 {
		holdBytes(t, string([]byte{byte(c)}))
		for d := range 256 {
			holdBytes(t, string([]byte{byte(c), byte(d)}))
		}
	}
	for _, c := range few {
		for _, d := range few {
			for _, f := range few {
				for _, g := range few {
					holdBytes(t, string([]byte{c, d, f, g}))
					holdBytes(t, string([]byte{1, 1, 'a', c, d, f, 'a', g}))
					holdBytes(t, string([]byte{1, 1, 'a', 4, c, d, f, g}))
					holdBytes(t, string([]byte{2, 1, 'a', 8, 0, 1, 'a', 0, c, d, f, g}))
				}
			}
		}
	}
}

// padded is a number in one byte more than it needs.
func padded(v int) string {
	b := []byte(numberBytes(v))
	b[len(b)-1] += 128
	return string(b) + "\x00"
}

// with is the bytes of pieces, of which one is another.
func with(pieces []any, i int, other any) string {
	l := slices.Clone(pieces)
	l[i] = other
	return bytesOf(l)
}

func TestNumbersInMoreBytes(t *testing.T) {
	for _, l := range chosenFew() {
		pieces := modelPieces(l)
		for i, x := range pieces {
			if v, ok := x.(int); ok {
				wantForm(t, with(pieces, i, padded(v)))
				wantForm(t, with(pieces, i, padded(v)[:len(padded(v))-1]+"\x80\x00"))
			}
		}
	}
	wantForm(t, "\x80\x00")
	wantForm(t, "\x81\x00\x01a\x04\x00\x01a\x00")
}

// The index tells as many bytes as the blocks then have.
func TestNumbersInMoreBytesThatAreCounted(t *testing.T) {
	for _, l := range chosenFew() {
		pieces := modelPieces(l)
		for i, x := range l {
			size := i/16*3 + 3                    // the place of the block's size
			first := len(pieces) - 5*len(l) + 5*i // of the entry's pieces
			for _, k := range []int{0, 1, 3} {
				other := slices.Clone(pieces)
				other[size] = other[size].(int) + 1
				wantForm(t, with(other, first+k, padded(other[first+k].(int))))
			}
			if other := slices.Clone(pieces); len(x.Term) > 1 && other[first].(int) > 0 { // and as many bytes fewer of the Term ahead
				shared, end := other[first].(int)-1, other[first+2].(string)
				other[first], other[first+1], other[first+2] = shared, len(end)+1, x.Term[shared:]
				wantForm(t, bytesOf(other))
				other[size] = other[size].(int) + 1
				wantForm(t, bytesOf(other))
			}
		}
	}
}

func largeNumbers() []string {
	return []string{
		"\xff\xff\x03", "\x80\x80\x04", "\x81\x80\x04", "\x80\x80\x40", "\x81\x80\x40", "\xff\xff\xff\x01", "\x80\x80\x80\x02", "\x81\x80\x80\x02", "\xff\xff\xff\x7f", "\xff\xff\xff\xff\x07", "\x80\x80\x80\x80\x08",
		"\xff\xff\xff\xff\x0f", "\x80\x80\x80\x80\x10", "\xff\xff\xff\xff\xff\xff\xff\xff\x7f", "\x80\x80\x80\x80\x80\x80\x80\x80\x80\x01", "\xff\xff\xff\xff\xff\xff\xff\xff\xff\x01", "\xfe\xff\xff\xff\xff\xff\xff\xff\xff\x01",
		"\xff\xff\xff\xff\xff\xff\xff\xff\xff\x02", "\x80\x80\x80\x80\x80\x80\x80\x80\x80\x02", "\xff\xff\xff\xff\xff\xff\xff\xff\xff\xff\x01", "\x80\x80\x80\x80\x80\x80\x80\x80\x80\x80\x00",
	}
}

func TestLargeNumbers(t *testing.T) {
	for _, l := range chosenFew() {
		pieces := modelPieces(l)
		for i := range pieces {
			for _, s := range largeNumbers() {
				if _, ok := pieces[i].(int); ok {
					wantForm(t, with(pieces, i, s))
				}
				wantForm(t, bytesOf(pieces[:i])+s)
			}
		}
	}
	for _, s := range largeNumbers() {
		wantForm(t, s)
		wantForm(t, s+strings.Repeat("\x01", 1000))
		wantForm(t, "\x11\x01a"+s+"\x01q"+s+strings.Repeat("\x00\x01a\x00", 20))
		wantForm(t, "\x01\x01a\x04"+s+"\x01a\x00")
	}
	// Sizes that come round to the right place, for who counts no further than 2^64.
	most := "\xff\xff\xff\xff\xff\xff\xff\xff\xff\x01"
	pieces := modelPieces(row(33))
	pieces[3], pieces[6] = most, pieces[3].(int)+pieces[6].(int)+1
	wantForm(t, bytesOf(pieces))
	wantForm(t, "\x21\x00"+most+"\x00"+most+"\x00"+most+strings.Repeat("\x00\x01a\x00", 40))
}

// One number alone is another. Where that makes other bytes of a right list, the model reads them.
func TestEachNumberMadeAnother(t *testing.T) {
	for _, l := range chosenFew() {
		pieces := modelPieces(l)
		for i, x := range pieces {
			v, ok := x.(int)
			if !ok {
				continue
			}
			for _, other := range []int{0, 1, 2, 3, 15, 16, 17, v - 16, v - 2, v - 1, v + 1, v + 2, v + 16, 2 * v, 40, 41, 127, 128, 1 << 20, 1<<20 + 1, 1 << 22} {
				if other >= 0 && other != v {
					holdBytes(t, with(pieces, i, other))
				}
			}
		}
	}
}

func TestIndexOfOthers(t *testing.T) {
	for _, n := range []int{1, 16, 17, 33, 40, 64} {
		pieces := modelPieces(row(n))
		marks := (n + 15) / 16
		end := 1 + 3*marks
		for k := range marks {
			first, size := pieces[2+3*k].(string), pieces[3+3*k].(int)
			for _, other := range []string{"", "t", first[:2], first + "\x00", "\x00", "s", "t0/", "u", "\xff", strings.Repeat("t", 40), strings.Repeat("t", 41)} {
				wantForm(t, bytesOf(pieces[:1+3*k])+bytesOf(markPieces(other, size))+bytesOf(pieces[4+3*k:]))
			}
			for _, other := range []int{0, 1, size - 1, size + 1, 2 * size, 1 << 30} {
				wantForm(t, with(pieces, 3+3*k, other))
			}
			wantForm(t, bytesOf(pieces[:1+3*k])+bytesOf(pieces[4+3*k:])) // without the mark
			wantForm(t, bytesOf(pieces[:4+3*k])+bytesOf(pieces[1+3*k:])) // with it twice
			if k > 0 {                                                   // what one has too much the next one has too little
				other := slices.Clone(pieces)
				other[3*k], other[3+3*k] = other[3*k].(int)+1, size-1
				wantForm(t, bytesOf(other))
			}
		}
		wantForm(t, bytesOf(pieces[:1])+bytesOf(pieces[end:]))
	}
	wantForm(t, "\x00\x00\x00")
	wantForm(t, "\x00\x01a\x00")
}

// The bytes are as they would be, were a block of another size.
func TestBlocksOfOtherSizes(t *testing.T) {
	for _, size := range []int{1, 2, 8, 15, 17, 32, 1000} {
		for _, n := range []int{15, 16, 17, 18, 31, 32, 33, 34, 50} {
			if s := bytesOf(laidOut(row(n), size)); s != modelPack(row(n)) {
				wantForm(t, s)
			}
		}
	}
}

// A block's first entry has nothing of the one ahead of the block.
func TestNothingIsSharedOverBlocks(t *testing.T) {
	for _, l := range [][]dict.Entry{row(17), row(20), row(33), row(48), ladder(17), ladder(40)} {
		pieces := modelPieces(l)
		for i := 16; i < len(l); i += 16 {
			for shared := 1; shared < len(l[i].Term); shared++ {
				place := len(pieces) - 5*len(l) + 5*i
				other := slices.Clone(pieces)
				copy(other[place:], entryPieces(l[i], shared))
				wantForm(t, bytesOf(other))
				other[i/16*3+3] = other[i/16*3+3].(int) - shared
				wantForm(t, bytesOf(other))
			}
		}
	}
	wantForm(t, "\x01\x01a\x03\x01\x00\x00")
	wantForm(t, "\x01\x01a\x04\x01\x01a\x00")
}

// Each list has the bytes that it would have, but is not right.
func TestBytesOfListsThatAreNotRight(t *testing.T) {
	large := strings.Repeat("v", mostValue+1)
	for _, l := range [][]dict.Entry{
		ofTerms(""), ofTerms("", "a"), ofTerms("a", ""), ofTerms("", ""), ofTerms("a", "a"), ofTerms("b", "a"), ofTerms("ab", "a"), ofTerms("a", "c", "b"), ofTerms("a", "b", "b"), ofTerms("\x80", "\x7f"),
		ofTerms(strings.Repeat("a", 41)), ofTerms("a", strings.Repeat("a", 41)), ofTerms(strings.Repeat("a", 41), "b"), ofTerms(strings.Repeat("a", 40), strings.Repeat("a", 41)), ofTerms(strings.Repeat("a", 1000)),
		{e("a", large)}, {e("a", large), e("b", "")}, {e("a", ""), e("b", large)}, append(ladder(40), e(strings.Repeat("a", 41), "")), append(row(20), e("t", "")), append(row(20), e("t19", "")), append(row(16), e("t15", "")),
		append(row(16), e("t14", "")), append(row(16), e("", "")), make([]dict.Entry, 40), append([]dict.Entry{e("", "")}, row(20)...), append([]dict.Entry{e("t00", "")}, row(20)...),
	} {
		wantRight(t, false, l...)
		wantForm(t, modelPack(l))
	}
	for i := range 35 {
		for _, term := range []string{"", "t", "t00", row(35)[max(i-1, 0)].Term, "u", strings.Repeat("t", 41), row(35)[i].Term + strings.Repeat("x", 38)} {
			l := row(35)
			l[i].Term = term
			if !modelRight(l) {
				wantForm(t, modelPack(l))
			}
		}
	}
}

func TestBytesByChance(t *testing.T) {
	r := rand.New(rand.NewSource(1))
	for range 10000 {
		b := make([]byte, r.Intn(60))
		for i := range b {
			b[i] = byte(r.Intn([]int{3, 10, 130, 256}[r.Intn(4)]))
		}
		holdBytes(t, string(b))
	}
	for range 5000 {
		b := []byte(modelPack(chosenList(r, r.Intn(40))))
		for range 1 + r.Intn(3) {
			i := r.Intn(len(b))
			switch r.Intn(4) {
			case 0:
				b[i] = byte(r.Intn(256))
			case 1:
				b[i] += byte(r.Intn(3)) - 1
			case 2:
				b[i] ^= 128
			case 3:
				k := r.Intn(len(b))
				b[i], b[k] = b[k], b[i]
			}
		}
		holdBytes(t, string(b))
	}
}

// T2

func TestTermsThatAreNotThere(t *testing.T) {
	for _, n := range []int{1, 15, 16, 17, 31, 32, 33, 48, 49} {
		for gone := range n { // each Term but one, at each place of a block
			l := row(n)
			term := l[gone].Term
			l = slices.Delete(l, gone, gone+1)
			holdAsked(t, l, about(term)...)
			if v, ok := dict.Get(modelPack(l), term); v != "" || ok {
				t.Errorf("Get of %q of %d: %q, %v", term, n, v, ok)
			}
		}
	}
}

// A prefix begins and ends at each place of a block.
func TestPrefixesOverBlocks(t *testing.T) {
	for _, n := range []int{1, 2, 15, 16, 17, 18, 32, 33, 40, 50} {
		for from := range n {
			for to := from; to <= n; to++ {
				var l []dict.Entry
				for i := range n {
					front := "a"
					if i >= from {
						front = "m"
					}
					if i >= to {
						front = "z"
					}
					l = append(l, e(fmt.Sprintf("%s%02d", front, i), "v"))
				}
				found := dict.Prefix(modelPack(l), "m")
				if !slices.Equal(found, l[from:to]) {
					t.Fatalf("%d of %d to %d: %s", n, from, to, short(found))
				}
				if from < to {
					holdAsked(t, l, l[from].Term, l[to-1].Term, l[from].Term[:2], "m9", "l", "n")
				}
			}
		}
	}
}

func TestPrefixIsATerm(t *testing.T) {
	l := ofTerms("fo", "fox", "foxes", "foxy", "foy")
	for prefix, want := range map[string][]dict.Entry{"fo": l, "fox": l[1:4], "foxe": l[2:3], "foxes": l[2:3], "foxesa": nil, "foxz": nil, "foy": l[4:], "f": l, "": l, "g": nil, "e": nil, "FOX": nil} {
		if found := dict.Prefix(modelPack(l), prefix); !slices.Equal(found, want) {
			t.Errorf("%q: %s", prefix, short(found))
		}
	}
}

// The bytes of blocks that a term is not in are not read: no Term is made of them.
func TestGetReadsOneBlock(t *testing.T) {
	l := many(4096)
	s := modelPack(l)
	for _, i := range []int{0, 1, 15, 16, 17, 100, 2000, 2015, 2016, 4079, 4080, 4081, 4094} {
		term, read := l[i].Term, float64(i%16+1)
		if n := testing.AllocsPerRun(10, func() { dict.Get(s, term) }); n > read+6 {
			t.Errorf("Get of %d: %v made", i, n)
		}
		if n := testing.AllocsPerRun(10, func() { dict.Get(s, term+"\x00") }); n > read+8 {
			t.Errorf("Get behind %d: %v made", i, n)
		}
		if n := testing.AllocsPerRun(10, func() { dict.Prefix(s, term) }); n > read+8 {
			t.Errorf("Prefix of %d: %v made", i, n)
		}
	}
}

// What the bytes tell of a Term ahead does not make Terms ever longer.
func TestTermsThatWouldGrow(t *testing.T) {
	n := 1 << 18
	marks := n / 16
	var b strings.Builder
	for i := range n {
		b.WriteString(numberBytes(i) + "\x01a\x00")
	}
	s := numberBytes(n) + strings.Repeat("\x01a\x40", marks) + b.String()
	wantForm(t, s)
	wantForm(t, numberBytes(n)+strings.Repeat("\x01a\x00", marks)+b.String())
}

func TestAskedOfOtherBytes(t *testing.T) {
	for _, l := range chosenFew() {
		s := modelPack(l)
		for i := range len(s) {
			ask(t, s[i:])
			ask(t, s[:i]+s)
			ask(t, s[:i]+"\xff\xff\xff\xff\xff\xff\xff\xff\xff\x01"+s[i:])
		}
	}
	for _, s := range largeNumbers() {
		for n := range 40 {
			ask(t, "\x21"+strings.Repeat("\x01", n)+s)
			ask(t, strings.Repeat("\x10", n)+strings.Repeat(s, 20))
			ask(t, strings.Repeat(s, n))
		}
	}
	for _, c := range []string{"\x00", "\x01", "\x10", "\x11", "\x7f", "\x80\x01", "\x80\x80\x40", "a", "\xff"} {
		ask(t, strings.Repeat(c, 5000))
		ask(t, "\x80\x80\x40"+strings.Repeat(c, 5000))
		ask(t, "\x81\x80\x40"+strings.Repeat(c, 200000))
	}
}

// T3

func holdFollowing(t *testing.T, l []dict.Entry) {
	t.Helper()
	s, e := dict.Pack(l)
	if e != api.OK {
		t.Fatal(short(l), e)
	}
	back, e := dict.Unpack(s)
	if !slices.Equal(back, l) || e != api.OK {
		t.Fatalf("%s was packed; unpacked: %s, %v", short(l), short(back), e)
	}
	if again, e := dict.Pack(back); again != s || e != api.OK {
		t.Fatalf("% .100x was unpacked; packed: % .100x, %v", s, again, e)
	}
	if all := dict.Prefix(s, ""); !slices.Equal(all, l) {
		t.Fatalf("Prefix(% .100x, nothing): %s; want %s", s, short(all), short(l))
	}
	for _, x := range l {
		if v, ok := dict.Get(s, x.Term); v != x.Value || !ok {
			t.Fatalf("Get(% .100x, %q): %q, %v; want %q", s, x.Term, v, ok, x.Value)
		}
	}
}

func TestWhatFollows(t *testing.T) {
	for _, l := range append(chosenFew(), row(100), row(1000), ladder(40), many(3000)) {
		holdFollowing(t, l)
	}
}

func TestListsByChance(t *testing.T) {
	r := rand.New(rand.NewSource(2))
	for i := range 300 {
		l := chosenList(r, r.Intn(100))
		if i%10 == 0 {
			l = chosenList(r, 200+r.Intn(800))
		}
		holdRight(t, l)
		holdFollowing(t, l)
		for range 20 {
			term := chosenTerm(r, "ab\x00\xff")
			if len(l) > 0 && r.Intn(2) == 0 {
				term = l[r.Intn(len(l))].Term
			}
			holdAsked(t, l, term, term[:r.Intn(len(term))], term+"a")
		}
	}
}

func TestTheLargestBlock(t *testing.T) {
	var l []dict.Entry
	for i := range 17 {
		l = append(l, e(strings.Repeat("k", 39)+string([]byte{'a' + byte(i)}), strings.Repeat("v", mostValue-i)))
	}
	holdFollowing(t, l)
}

// P2 to P4 of the document: nothing is written into, kept or shared.

func TestListsAreNew(t *testing.T) {
	l := row(40)
	s, _ := dict.Pack(l)
	first, _ := dict.Unpack(s)
	found := dict.Prefix(s, "t1")
	for _, other := range [][]dict.Entry{l, first, found} {
		clear(other)
		_ = append(other, e("x", "y"))
	}
	holdAll(t, row(40))
	if x, e := dict.Unpack(s); !slices.Equal(x, row(40)) || e != api.OK {
		t.Error(short(x))
	}
	if x := dict.Prefix(s, "t1"); !slices.Equal(x, row(40)[10:20]) {
		t.Error(short(x))
	}
}

func TestWhatLiesBehindAList(t *testing.T) {
	room := append(row(20), e("", "x"), e("a", "y"))
	holdRight(t, room[:20])
	holdRight(t, room[:16])
	holdList(t, room[:21])
	if !slices.Equal(room[20:], []dict.Entry{e("", "x"), e("a", "y")}) {
		t.Error(room[20:])
	}
}

func TestTheSameAgain(t *testing.T) {
	r := rand.New(rand.NewSource(3))
	for range 20 {
		l := chosenList(r, r.Intn(60))
		first, _ := dict.Pack(l)
		dict.Pack(row(30))
		dict.Unpack("\x01")
		dict.Get(first, "a")
		dict.Prefix(first, "b")
		second, _ := dict.Pack(l)
		if first != second {
			t.Error(short(l))
		}
		holdRight(t, l)
	}
}

// The document's examples

func TestExamples(t *testing.T) {
	l := []dict.Entry{e("ab", "1"), e("abc", "2")}
	// The document's example has 10 where its own words give 11: the block has six bytes of the first entry and five of the second.
	s := string([]byte{2, 2, 'a', 'b', 11, 0, 2, 'a', 'b', 1, '1', 2, 1, 'c', 1, '2'})
	wantBytes(t, l, s)
	if v, ok := dict.Get(s, "abc"); v != "2" || !ok {
		t.Error(v, ok)
	}
	if v, ok := dict.Get(s, "a"); v != "" || ok {
		t.Error(v, ok)
	}
	if found := dict.Prefix(s, "abc"); !slices.Equal(found, l[1:]) {
		t.Error(found)
	}
}
