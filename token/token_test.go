package token_test

import (
	"fmt"
	"math/rand"
	"slices"
	"strings"
	"testing"

	"codex/api"
	"codex/token"
	"codex/utf"
)

// wantTokens takes tokens as told writes them: a term, a colon, its place.
func wantTokens(t *testing.T, s, want string) {
	t.Helper()
	if x := told(token.Tokens(s)); x != want {
		t.Errorf("Tokens(%q): %q; want %q", s, x, want)
	}
}

func wantTerms(t *testing.T, s string, want ...string) {
	t.Helper()
	if l := token.Terms(s); !slices.Equal(l, want) {
		t.Errorf("Terms(%q): %q; want %q", s, l, want)
	}
}

func wantStop(t *testing.T, term string, ok bool) {
	t.Helper()
	if x := token.Stop(term); x != ok {
		t.Errorf("Stop(%q): %v; want %v", term, x, ok)
	}
}

// K1, of Tokens

func TestTokensOfNothing(t *testing.T) {
	wantTokens(t, "", "")
	wantTokens(t, "fox"[3:], "")
}

func TestTokensWithoutAWord(t *testing.T) {
	for _, s := range append(parting(), badBytes()...) {
		wantTokens(t, s, "")
		wantTokens(t, s+s, "")
		wantTokens(t, " "+s+"-", "")
	}
	wantTokens(t, " ,.- \t\n— … 😀 _", "")
	wantTokens(t, strings.Join(parting(), ""), "")
	wantTokens(t, strings.Join(badBytes(), " "), "")
}

func TestWordsAtTheEnds(t *testing.T) {
	for s, want := range map[string]string{
		"x": "x:0", "fox": "fox:0", " fox": "fox:0", "fox ": "fox:0", " fox ": "fox:0", "...fox!": "fox:0",
		"fox dog": "fox:0 dog:1", "-fox-dog": "fox:0 dog:1", "fox-dog-": "fox:0 dog:1", "  fox  dog  ": "fox:0 dog:1",
		"x y z": "x:0 y:1 z:2", "fox fox fox": "fox:0 fox:1 fox:2", "é": "é:0", " 中": "中:0", "中 ": "中:0", "7": "7:0", "8 9": "8:0 9:1",
	} {
		wantTokens(t, s, want)
	}
}

func TestWordsAreParted(t *testing.T) {
	for _, p := range parting() {
		for n := 1; n <= 4; n++ {
			p := strings.Repeat(p, n)
			wantTokens(t, "up"+p+"down", "up:0 down:1")
			wantTokens(t, p+"up"+p+"down"+p, "up:0 down:1")
			wantTokens(t, "é"+p+"中"+p+"7", "é:0 中:1 7:2")
		}
		for _, q := range parting() {
			wantTokens(t, q+"up"+p+q+"down"+q+p, "up:0 down:1")
		}
	}
}

func TestLettersAndDigitsAreOneWord(t *testing.T) {
	for s, want := range map[string]string{
		"2nd": "2nd:0", "a1": "a1:0", "1a": "1a:0", "007": "007:0", "x86-64": "x86:0 64:1", "3x4y5": "3x4y5:0", "7 11": "7:0 11:1",
		"٣x": "٣x:0", "x٣7९": "x٣7९:0", "中7文": "中7文:0", "é1É2": "é1é2:0", "1.5": "1:0 5:1", "10,000 of 2": "10:0 000:1 2:3",
	} {
		wantTokens(t, s, want)
	}
}

func TestRunesOfWords(t *testing.T) {
	for s, want := range map[string]string{
		"naïve": "naïve:0", "aé中": "aé中:0", "中éa": "中éa:0", "한글 中文": "한글:0 中文:1", "שלום": "שלום:0", "été": "été:0",
		"中😀文": "中:0 文:1", "é\U00010348é": "é:0 é:1", "a\u0301b": "b:1", "x\u0301y": "x:0 y:1", "中，文": "中:0 文:1", "é·é": "é:0 é:1",
		"don't_stop": "don:0 t:1 stop:2", "it's": "s:1", "it’s": "s:1", "ªµº": "ªµº:0", "x²": "x:0", "あx": "x:0",
	} {
		wantTokens(t, s, want)
	}
	for _, r := range wordRunes() {
		term := string(modelFold(r))
		wantTokens(t, "x"+string(r)+"y", "x"+term+"y:0")
		wantTokens(t, "- "+string(r)+"z", term+"z:0")
		wantTokens(t, "x"+string(r)+" -", "x"+term+":0")
	}
}

// Each rune stands in the midst of what else were one word.
func TestEachRune(t *testing.T) {
	const most, bulk = 0x10FFFF, 0x1000
	for first := 0; first <= most; first += bulk {
		var b strings.Builder
		for r := first; r < first+bulk; r++ {
			if r < 0xD800 || r > 0xDFFF {
				fmt.Fprintf(&b, "x%cy ", r)
			}
		}
		holdTokens(t, b.String(), modelTokens(b.String()))
	}
}

func TestBadBytesPart(t *testing.T) {
	for _, x := range badBytes() {
		wantTokens(t, "up"+x+"down", "up:0 down:1")
		wantTokens(t, x+"up", "up:0")
		wantTokens(t, "up"+x, "up:0")
		wantTokens(t, x+"up"+x+x+"down"+x, "up:0 down:1")
		wantTokens(t, "é"+x+"é", "é:0 é:1")
		wantTokens(t, "中"+x+"中", "中:0 中:1")
		wantTokens(t, "7"+x+"É"+x+"ж", "7:0 é:1 ж:2")
		wantTokens(t, "the"+x+"fox", "fox:1")
		for _, p := range parting() {
			wantTokens(t, "up"+x+p+"down", "up:0 down:1")
			wantTokens(t, "up"+p+x+"down", "up:0 down:1")
		}
	}
	wantTokens(t, "x\xffy", "x:0 y:1")
	wantTokens(t, "caf\xc3", "caf:0")
	wantTokens(t, "caf\xc3\xa9", "café:0")
	wantTokens(t, "caf\xc3\xa9\xa9s", "café:0 s:1")
}

// capitals are all ways to write a word of small letters with some of them capital ones, the first as it is.
func capitals(s string) []string {
	var l []string
	for which := range 1 << len(s) {
		b := []byte(s)
		for i := range b {
			if which>>i&1 == 1 {
				b[i] -= 'a' - 'A'
			}
		}
		l = append(l, string(b))
	}
	return l
}

func TestStopWordsAreLeftOut(t *testing.T) {
	for _, stop := range stopWords() {
		for _, s := range capitals(stop) {
			wantTokens(t, s, "")
			wantTokens(t, "-"+s+"-", "")
			wantTokens(t, "fox "+s, "fox:0")
			wantTokens(t, s+" fox", "fox:1")
			wantTokens(t, "Fox "+s+" dog", "fox:0 dog:2")
			wantTokens(t, s+" fox "+s+s+" "+s+","+s+" dog "+s, "fox:1 "+stop+stop+":2 dog:5")
			wantTerms(t, s)
			wantTerms(t, "fox "+s+" dog", "dog", "fox")
		}
	}
	wantTokens(t, strings.Join(stopWords(), " ")+" fox", "fox:18")
	wantTokens(t, strings.ToUpper(strings.Join(stopWords(), "-"))+"-fox", "fox:18")
}

func TestStopWordsInLongerOnes(t *testing.T) {
	for _, stop := range stopWords() {
		for _, s := range []string{
			stop + "x", "x" + stop, "x" + stop + "x", stop + "7", "7" + stop, stop + "é", "é" + stop, stop + "中", "中" + stop, stop + stop, stop + "٣",
		} {
			wantTokens(t, s, s+":0")
			wantTokens(t, strings.ToUpper(s), s+":0")
			wantTokens(t, stop+" "+s+" "+stop+" "+s, s+":1 "+s+":3")
		}
	}
	for s, want := range map[string]string{
		"then ought band fort": "then:0 ought:1 band:2 fort:3", "th e": "th:0 e:1", "wit h": "wit:0 h:1", "ſ aſ iſ": "ſ:0 aſ:1 iſ:2", "ıs İS": "ıs:0 İs:1",
		"ª º àt": "ª:0 º:1 àt:2", "аѕ": "аѕ:0", "th\u00ade": "th:0 e:1", "th\xffe": "th:0 e:1",
	} {
		wantTokens(t, s, want)
	}
}

// exactWord is a word of so many bytes, all of it, but for at most two bytes, in one rune.
func exactWord(r rune, size int) string {
	n := len(string(r))
	return strings.Repeat("x", size%n) + strings.Repeat(string(r), size/n)
}

func TestLongWordsAreLeftOut(t *testing.T) {
	for _, r := range []rune{'w', '7', 'é', 'σ', 'ж', '٣', '中', '글', '९'} {
		for _, size := range []int{1, 20, 21, 38, 39, 40, 41, 42, 43, 60, 63, 80, 81, 120, 123, 255, 256, 257, 1000, 65576} {
			s := exactWord(r, size)
			if len(s) != size {
				t.Fatal(r, size, len(s))
			}
			first, then, last := s+":0", " "+s+":1", " "+s+":3"
			if size > 40 {
				first, then, last = "", "", ""
			}
			wantTokens(t, s, first)
			wantTokens(t, "-"+s+"-", first)
			wantTokens(t, "up "+s+" down", "up:0"+then+" down:2")
			wantTokens(t, "up "+s+" down "+s+" on", "up:0"+then+" down:2"+last)
			holdTokens(t, strings.ToUpper(s), modelTokens(s))
			hold(t, "Up "+s+" down")
		}
	}
}

func TestLongWordsOfMixedRunes(t *testing.T) {
	for n := 30; n <= 50; n++ {
		for _, s := range []string{
			strings.Repeat("aé中", 9)[:6*5] + strings.Repeat("z", n-30), strings.Repeat("z", n-30) + strings.Repeat("Aé中", 5), "É" + strings.Repeat("1Σ", 9) + strings.Repeat("Z", n-29),
		} {
			if len(s) != n {
				t.Fatal(s, len(s))
			}
			hold(t, s)
			hold(t, "the "+s+" fox "+s+s+" "+s)
			if ok := len(token.Tokens(s)) == 1; ok != (n <= 40) {
				t.Errorf("Tokens(%q): %v", s, ok)
			}
		}
	}
}

func TestFoldedWordsAreAlike(t *testing.T) {
	for s, want := range map[string]string{
		"fox Fox fOX FOX": "fox:0 fox:1 fox:2 fox:3", "ÉCOLE école École": "école:0 école:1 école:2", "Σς σσ ΣΣ": "σσ:0 σσ:1 σσ:2",
		"Жук ЖУК жук": "жук:0 жук:1 жук:2", "Ёж ёЖ": "ёж:0 ёж:1", "ԱՖ աֆ": "աֆ:0 աֆ:1", "Ňĺ ňĹ": "ňĺ:0 ňĺ:1", "ĀĖ āė": "āė:0 āė:1",
		"straße STRASSE": "straße:0 strasse:1", "Ÿ ÿ": "Ÿ:0 ÿ:1", "İ i ı I": "İ:0 i:1 ı:2 i:3", "Ά ά": "Ά:0 ά:1", "2ND 2nd": "2nd:0 2nd:1",
	} {
		wantTokens(t, s, want)
	}
	wantTerms(t, "fox Fox dog DOG fOX", "dog", "fox")
	wantTerms(t, "Σς σσ ΣΣ ЖУК жук", "σσ", "жук")
	wantTerms(t, "Ÿ ÿ", "ÿ", "Ÿ")
}

// K1, of Stop

func TestStop(t *testing.T) {
	for _, stop := range stopWords() {
		for i, s := range capitals(stop) {
			wantStop(t, s, i == 0)
		}
	}
	for _, s := range []string{
		"", " ", "fox", "The", "THE", "withe", "i", "t", "e", "th", "wit", "fo", "thee", "b", "o", "ab", "b y", "no", "so", "was", "will", "that", "this", "not", "if", "but", "into", "their",
		"the ", " the", "the\x00", "the\xff", "\xc3the", "the,", "the a", "a an", "aan", "é", "á", "ä", "ª", "\u0430", "\u0251", "aſ", "ıt",
	} {
		wantStop(t, s, false)
	}
}

func TestStopOfOneLetterMoreOrFewer(t *testing.T) {
	held := func(s string) { wantStop(t, s, slices.Contains(stopWords(), s)) }
	for _, stop := range stopWords() {
		for i := range stop {
			held(stop[:i])
			held(stop[i:])
			held(stop[:i] + stop[i+1:])
		}
		for c := range 256 {
			for i := range len(stop) + 1 {
				held(stop[:i] + string([]byte{byte(c)}) + stop[i:])
			}
			for i := range stop {
				held(stop[:i] + string([]byte{byte(c)}) + stop[i+1:])
			}
		}
	}
}

// eachText goes over all texts of the given parts, at most so many of these, one behind the other.
func eachText(parts []string, most int, do func(s string)) {
	var grow func(s string, left int)
	grow = func(s string, left int) {
		do(s)
		if left > 0 {
			for _, p := range parts {
				grow(s+p, left-1)
			}
		}
	}
	grow("", most)
}

func TestStopOfAllShortTexts(t *testing.T) {
	found := 0
	eachText(strings.Split("abcdefghijklmnopqrstuvwxyz", ""), 4, func(s string) {
		if token.Stop(s) {
			found++
		}
	})
	if found != len(stopWords()) {
		t.Errorf("of all texts of small letters %d are stop words", found)
	}
	var all []string
	for c := range 256 {
		all = append(all, string([]byte{byte(c)}))
	}
	eachText(all, 2, func(s string) { wantStop(t, s, slices.Contains(stopWords(), s)) })
}

// K2

func TestTerms(t *testing.T) {
	wantTerms(t, "")
	wantTerms(t, " ,.- \xff")
	wantTerms(t, "the and of")
	wantTerms(t, strings.Repeat("w", 41))
	wantTerms(t, "fox", "fox")
	wantTerms(t, "The fox", "fox")
	for _, s := range []string{"ant bee cat dog", "dog cat bee ant", "bee dog ant cat", "cat ant dog bee", "ant ant bee bee cat cat dog dog", "dog DOG dog cat ant the Ant bee cat dog ant"} {
		wantTerms(t, s, "ant", "bee", "cat", "dog")
	}
}

func TestTermsOnceTwiceAndOften(t *testing.T) {
	wantTerms(t, "fox fox", "fox")
	wantTerms(t, "fox dog fox", "dog", "fox")
	wantTerms(t, "dog fox fox", "dog", "fox")
	wantTerms(t, "fox fox dog", "dog", "fox")
	wantTerms(t, strings.Repeat("fox ", 1000), "fox")
	wantTerms(t, strings.Repeat("fox dog FOX cat Dog ", 1000), "cat", "dog", "fox")
	wantTerms(t, "once twice often often twice often", "often", "once", "twice")
}

func TestTermsRiseByteByByte(t *testing.T) {
	wantTerms(t, "b a1 B zz", "a1", "b", "zz")
	wantTerms(t, "foxes fox fo f foxe", "f", "fo", "fox", "foxe", "foxes")
	wantTerms(t, "f fo fox foxe foxes", "f", "fo", "fox", "foxe", "foxes")
	wantTerms(t, "aa b ab aaa ba aab", "aa", "aaa", "aab", "ab", "b", "ba")
	wantTerms(t, "10 9 1 2 100 x10 x9 x1", "1", "10", "100", "2", "9", "x1", "x10", "x9")
	wantTerms(t, "중 한 中 ж σ é z x1 x 9 ٣ é1 éz Z", "9", "x", "x1", "z", "é", "é1", "éz", "σ", "ж", "٣", "中", "중", "한")
	wantTerms(t, "Zebra apple Ähre Äpfel zoo", "apple", "zebra", "zoo", "ähre", "äpfel")
}

func TestTermsOfLongWords(t *testing.T) {
	for _, r := range []rune{'w', 'é', '中'} {
		wantTerms(t, exactWord(r, 41)+" "+exactWord(r, 40)+" "+exactWord(r, 42)+" "+exactWord(r, 39)+" "+exactWord(r, 40), slices.Sorted(slices.Values([]string{exactWord(r, 39), exactWord(r, 40)}))...)
	}
}

// All of it, of all short texts of parts that meet one another in each way.

func TestShortTexts(t *testing.T) {
	parts := []string{"x", "A", "n", "1", " ", "é", "É", "中", "-", "\U0001f600", "\xc3", "\xa9"}
	eachText(parts, 4, func(s string) {
		hold(t, s)
		holdFollowing(t, s)
	})
	var few []string
	eachText([]string{"A", "N", "x", " ", "\xc3", "\xa9", "的"}, 3, func(s string) { few = append(few, s) })
	for _, s := range few {
		for _, other := range few {
			holdBehind(t, s, other)
		}
	}
}

// K3, and K1 and K2 of texts by chance.

func TestAFoldedText(t *testing.T) {
	for _, s := range []string{"", "Fox", "THE FOX", "ÉCOLE\xffÉ", "Σς ΣΑΣ", "A\xc3A\xc3\x89A", strings.Repeat("É", 20) + " " + strings.Repeat("É", 21) + " Z"} {
		holdTokens(t, utf.Folded(s), token.Tokens(s))
		holdTokens(t, s, modelTokens(utf.Folded(s)))
	}
}

func TestATermAlone(t *testing.T) {
	for _, term := range token.Terms("The quick, brown-fox the 2nd É ΣΑΣ Ÿ İ ԱՖ 中文 ٣x " + strings.Repeat("É", 20)) {
		wantTokens(t, term, term+":0")
		wantTerms(t, term, term)
	}
}

func TestATextBehindAnother(t *testing.T) {
	wantTokens(t, "the quick "+"fox the", "quick:1 fox:2")
	wantTokens(t, "of the"+" "+"and", "")
	wantTokens(t, "of the"+" "+"and fox", "fox:3")
	wantTokens(t, "caf\xc3"+" "+"\xa9fox", "caf:0 fox:1")
	some := []string{"", " ", "fox", "the", "The fox the", "\xff", "caf\xc3", "\xa9x", "-", "x-", "-x", strings.Repeat("é", 21), "中文 文", "it's"}
	for _, s := range some {
		for _, other := range some {
			holdBehind(t, s, other)
			// Where a text's words end is also told by the package itself, of a word behind it.
			end := token.Tokens(s + " fox")
			if n := end[len(end)-1].Pos; n != len(modelWords(s)) {
				t.Errorf("words of %q: %d", s, n)
			}
		}
	}
}

func TestChosenTexts(t *testing.T) {
	r := rand.New(rand.NewSource(11))
	tokens, words, long, stops := 0, 0, 0, 0
	before := ""
	for range 6000 {
		s := chosenText(r, r.Intn(40))
		hold(t, s)
		holdFollowing(t, s)
		holdBehind(t, before, s)
		before = s
		tokens += len(token.Tokens(s))
		for _, word := range modelWords(s) {
			words++
			if term := strings.Map(modelFold, word); len(term) > 40 {
				long++
			} else if slices.Contains(stopWords(), term) {
				stops++
			}
		}
	}
	if tokens+long+stops != words || tokens < words/2 || long < words/20 || stops < words/20 {
		t.Errorf("of %d words %d are told, %d are too long, %d are stop words: too few of one kind", words, tokens, long, stops)
	}
}

func TestLongTexts(t *testing.T) {
	r := rand.New(rand.NewSource(12))
	for range 10 {
		s, other := chosenText(r, 4000), chosenText(r, 4000)
		hold(t, s)
		holdFollowing(t, s)
		holdBehind(t, s, other)
	}
	for _, s := range []string{"x", "x ", " ", "\xff", "x\xff", "É", "é,", "中", "The ", "the fox ", "\xc3", "\xe4\xb8", "\U0001f600x"} {
		s = strings.Repeat(s, 100000)
		hold(t, s)
		holdFollowing(t, s)
		holdBehind(t, s, "fox "+s)
	}
}

// P3 and P4

func TestListsAreNew(t *testing.T) {
	const s = "The fox, a dog, the fox"
	for range 3 {
		wantTokens(t, s, "fox:1 dog:3 fox:5")
		wantTerms(t, s, "dog", "fox")
		l := token.Tokens(s)
		for i := range l[:cap(l)] {
			l[:cap(l)][i] = api.Token{Term: "cat", Pos: 9}
		}
		terms, again := token.Terms(s), token.Terms(s)
		for i := range terms[:cap(terms)] {
			terms[:cap(terms)][i] = "cat"
		}
		if !slices.Equal(again, []string{"dog", "fox"}) {
			t.Errorf("two lists of terms share: %q", again)
		}
	}
}

// The document's examples.

func TestExamples(t *testing.T) {
	wantTokens(t, "The quick, brown-fox the 2nd", "quick:1 brown:2 fox:3 2nd:5")
	wantTerms(t, "b a1 B zz", "a1", "b", "zz")
	wantStop(t, "the", true)
	wantStop(t, "The", false)
}
