package token_test

import (
	"fmt"
	"math/rand"
	"regexp"
	"slices"
	"strings"
	"testing"

	"codex/api"
	"codex/token"
	"codex/utf"
)

// The document's words, written down without the package's own code, and without utf's.

// wordForm is a word: Letters and Digits (R4 of 10-utf.md) that stand beside one another. A byte of no rune is none of them to a regexp, either.
var wordForm = regexp.MustCompile(`[A-Za-z\x{AA}\x{B5}\x{BA}\x{C0}-\x{D6}\x{D8}-\x{F6}\x{F8}-\x{24F}` +
	`\x{370}-\x{374}\x{376}\x{377}\x{37A}-\x{37D}\x{37F}\x{386}\x{388}-\x{38A}\x{38C}\x{38E}-\x{3A1}\x{3A3}-\x{3F5}\x{3F7}-\x{3FF}` +
	`\x{400}-\x{481}\x{48A}-\x{52F}\x{531}-\x{556}\x{561}-\x{587}\x{5D0}-\x{5EA}\x{4E00}-\x{9FFF}\x{AC00}-\x{D7A3}` +
	`0-9\x{660}-\x{669}\x{966}-\x{96F}]+`)

func stopWords() []string {
	return []string{"a", "an", "and", "are", "as", "at", "be", "by", "for", "in", "is", "it", "of", "on", "or", "the", "to", "with"}
}

type span struct{ first, last rune }

func within(r rune, l ...span) bool {
	return slices.ContainsFunc(l, func(x span) bool { return x.first <= r && r <= x.last })
}

// modelFold is R5 of 10-utf.md.
func modelFold(r rune) rune {
	switch {
	case r == 0xD7 || r == 0x3A2:
		return r
	case within(r, span{'A', 'Z'}, span{0xC0, 0xDE}, span{0x410, 0x42F}, span{0x391, 0x3A9}):
		return r + 32
	case r == 0x3C2:
		return 0x3C3
	case within(r, span{0x400, 0x40F}):
		return r + 80
	case r%2 == 0 && within(r, span{0x100, 0x12F}, span{0x14A, 0x177}, span{0x460, 0x481}, span{0x48A, 0x4BF}, span{0x4D0, 0x52F}):
		return r + 1
	case r%2 == 1 && within(r, span{0x139, 0x148}, span{0x179, 0x17E}):
		return r + 1
	case within(r, span{0x531, 0x556}):
		return r + 48
	}
	return r
}

func modelWords(s string) []string { return wordForm.FindAllString(s, -1) }

func modelTokens(s string) []api.Token {
	var l []api.Token
	for place, word := range modelWords(s) {
		term := strings.Map(modelFold, word)
		if !slices.Contains(stopWords(), term) && len(term) <= 40 {
			l = append(l, api.Token{Term: term, Pos: place})
		}
	}
	return l
}

// modelTerms puts each term where it belongs among those that are there, if it is not.
func modelTerms(s string) []string {
	var l []string
	for _, x := range modelTokens(s) {
		at := 0
		for at < len(l) && l[at] < x.Term {
			at++
		}
		if at == len(l) || l[at] != x.Term {
			l = slices.Insert(l, at, x.Term)
		}
	}
	return l
}

// told is tokens as a text. (No term has a colon or a blank.)
func told(l []api.Token) string {
	var parts []string
	for _, x := range l {
		parts = append(parts, fmt.Sprint(x.Term, ":", x.Pos))
	}
	return strings.Join(parts, " ")
}

// holdTokens is told which token is the first one that is unlike, as texts may be long.
func holdTokens(t *testing.T, s string, want []api.Token) {
	t.Helper()
	l := token.Tokens(s)
	if slices.Equal(l, want) {
		return
	}
	if len(s) < 300 {
		t.Fatalf("Tokens(%q): %q; want %q", s, told(l), told(want))
	}
	i := 0
	for i < min(len(l), len(want)) && l[i] == want[i] {
		i++
	}
	t.Fatalf("Tokens of %d bytes from %q on: %d tokens, from number %d on %q; want %d, %q", len(s), s[:300], len(l), i, told(l[i:min(i+5, len(l))]), len(want), told(want[i:min(i+5, len(want))]))
}

// hold holds all that is told of a text against the model.
func hold(t *testing.T, s string) {
	t.Helper()
	holdTokens(t, s, modelTokens(s))
	if l, want := token.Terms(s), modelTerms(s); !slices.Equal(l, want) {
		t.Fatalf("Terms(%q): %q; want %q", s, l, want)
	}
}

// holdFollowing holds what K3 says of one text.
func holdFollowing(t *testing.T, s string) {
	t.Helper()
	l := token.Tokens(s)
	holdTokens(t, utf.Folded(s), l)
	last := -1
	for _, x := range l {
		if x.Pos <= last {
			t.Fatalf("Tokens(%q): place %d behind %d", s, x.Pos, last)
		}
		last = x.Pos
	}
	for _, term := range token.Terms(s) {
		holdTokens(t, term, []api.Token{{Term: term, Pos: 0}})
	}
}

// holdBehind holds what K3 says of a text, a blank and another text.
func holdBehind(t *testing.T, s, other string) {
	t.Helper()
	want, words := token.Tokens(s), len(modelWords(s))
	for _, x := range token.Tokens(other) {
		want = append(want, api.Token{Term: x.Term, Pos: words + x.Pos})
	}
	holdTokens(t, s+" "+other, want)
}

// parting are texts that part two words: runes of one to four bytes that are no Letters and no Digits, also some that stand just beside these, or that others than the document take for letters.
func parting() []string {
	return []string{
		" ", "\t", "\n", "\v", "\f", "\r", "\x00", "\x01", "\x1f", "!", "\"", "'", ",", "-", ".", "/", ":", "@", "[", "_", "`", "{", "~", "\x7f",
		"\u0080", "\u0085", "\u00a0", "\u00a9", "\u00ab", "\u00b2", "\u00b4", "\u00b6", "\u00b7", "\u00bf", "\u00d7", "\u00f7",
		"\u0250", "\u02b0", "\u0301", "\u036f", "\u0375", "\u0378", "\u0379", "\u037e", "\u0380", "\u0385", "\u0387", "\u038b", "\u038d", "\u03a2", "\u03f6",
		"\u0482", "\u0489", "\u0530", "\u0557", "\u0560", "\u0588", "\u05cf", "\u05eb", "\u0627", "\u065f", "\u066a", "\u07ff",
		"\u0800", "\u0965", "\u0970", "\u0e01", "\u10a0", "\u1e9e", "\u2000", "\u200d", "\u2019", "\u2028", "\u2126", "\u212a", "\u2160", "\u3000", "\u3042", "\u4dff", "\ua000", "\uabff", "\ud7a4",
		"\ue000", "\ufeff", "\uff21", "\uff11", "\ufffd", "\uffff",
		"\U00010000", "\U00010348", "\U00010400", "\U0001d7d8", "\U0001f600", "\U00020000", "\U0010ffff",
	}
}

// badBytes are of no rune.
func badBytes() []string {
	return []string{
		"\x80", "\x8f", "\x9f", "\xa9", "\xbf", "\xc0", "\xc1", "\xc3", "\xdf", "\xe0", "\xe4", "\xef", "\xf0", "\xf4", "\xf5", "\xfe", "\xff",
		"\xc3\xc3", "\xe4\xb8", "\xf0\x9f", "\xf0\x9f\x98", "\xf4\x8f\xbf", "\x80\x80", "\xff\xff\xff",
		"\xc0\x80", "\xc1\x81", "\xc1\xa1", "\xe0\x81\x81", "\xe0\x83\xa9", "\xf0\x80\x81\x81", "\xf0\x84\xb8\xad", // longer than they need be, of runes that are Letters
		"\xed\xa0\x80", "\xed\xbf\xbf", "\xed\xa0\xbd\xed\xb8\x80", "\xf4\x90\x80\x80", "\xf8\x88\x80\x80\x80",
	}
}

// wordRunes are Letters and Digits of one, two and three bytes, small, capital, and of no such kind.
func wordRunes() []rune {
	return []rune("abhinorstwxyzABHNORSTWXYZ0189ªµºÀÉÖØÞßàéöøþÿĀāĮįİıĲĳĸĹĺŇňŉŊŋŶŷŸŹźŽžſƀɏͰ\u0374ͶͷͺͽͿΆΈΎΑΡΣΩΪαρςσωϏϵϷϿЀЏАЯаяѐџѠѡҀҁҊҋҾҿӀӁӏӐӑԮԯԱՖաֆևאת٠٣٩०९一中文鿿가한글힣")
}

// chosenWord is a word, most often a short one; letters are but few, so that words come again, and stop words among them.
func chosenWord(r *rand.Rand) string {
	stops, runes := stopWords(), wordRunes()
	switch r.Intn(8) {
	case 0:
		return chosenCase(r, stops[r.Intn(len(stops))])
	case 1, 2:
		return chosenCase(r, chosenOf(r, []rune("ant"), 1+r.Intn(3)))
	case 3:
		return chosenCase(r, stops[r.Intn(len(stops))]) + string(runes[r.Intn(len(runes))])
	case 4:
		return chosenLong(r, 37+r.Intn(7))
	case 5:
		return chosenOf(r, []rune("eéEÉσςΣ1"), 1+r.Intn(4))
	}
	return chosenOf(r, runes, 1+r.Intn(15))
}

func chosenOf(r *rand.Rand, runes []rune, n int) string {
	var b strings.Builder
	for range n {
		b.WriteRune(runes[r.Intn(len(runes))])
	}
	return b.String()
}

// chosenLong is a word of at least so many bytes.
func chosenLong(r *rand.Rand, size int) string {
	runes := wordRunes()
	if r.Intn(2) == 0 {
		runes = []rune("aBéΣ中글7٣")[r.Intn(5):]
	}
	s := ""
	for len(s) < size {
		s += string(runes[r.Intn(len(runes))])
	}
	return s
}

func chosenCase(r *rand.Rand, s string) string {
	switch r.Intn(3) {
	case 0:
		return s
	case 1:
		return strings.ToUpper(s)
	}
	b := []byte(s)
	for i := range b {
		b[i] -= byte(32 * r.Intn(2))
	}
	return string(b)
}

// chosenText is n words with what parts them, or does not, and bytes by chance.
func chosenText(r *rand.Rand, n int) string {
	parts, bad := parting(), badBytes()
	evil := r.Intn(3)
	var b strings.Builder
	for range n {
		switch r.Intn(12) {
		case 0, 1:
			b.WriteString(parts[r.Intn(len(parts))])
		case 2:
			b.WriteString(strings.Repeat(parts[r.Intn(len(parts))], r.Intn(4)))
		case 3:
			if evil > 0 {
				b.WriteString(bad[r.Intn(len(bad))])
			}
		case 4:
			if evil > 1 {
				b.WriteByte(byte(r.Intn(256)))
			}
		case 5:
			b.WriteRune(rune(r.Intn(0x600)))
		default:
			b.WriteByte(' ')
		}
		b.WriteString(chosenWord(r))
	}
	return b.String()
}
