package wire

import (
	"hash/crc32"
	"math/big"
	"math/rand"
	"slices"
	"strings"
	"testing"
)

// edges are numbers at which Var takes a byte more, and those beside them.
func edges() []uint64 {
	l := []uint64{0, 1, 2, 300, 1<<63 - 1, 1 << 63, 1<<64 - 2, 1<<64 - 1}
	for k := 1; k <= 9; k++ {
		p := uint64(1) << (7 * k)
		l = append(l, p-1, p, p+1)
	}
	for k := range 64 {
		l = append(l, 1<<k)
	}
	return l
}

// tails are what may stand behind something that is read.
func tails() []string {
	return []string{"", "\x00", "\x80", "\x80\x00", "\x01", "\x7f", "\xff", "abc", strings.Repeat("\xff", 12), strings.Repeat("\x00", 12)}
}

func chosenText(r *rand.Rand, n int) string {
	b := make([]byte, n)
	for i := range b {
		b[i] = byte(r.Intn(256))
	}
	return string(b)
}

func chosenNumber(r *rand.Rand) uint64 { return r.Uint64() >> r.Intn(64) }

func wantFixed(t *testing.T, s string, v uint32, rest string, ok bool) {
	t.Helper()
	if x, y, z := ToFixed(s); x != v || y != rest || z != ok {
		t.Errorf("ToFixed(%q): %d, %q, %v; want %d, %q, %v", s, x, y, z, v, rest, ok)
	}
}

func wantVar(t *testing.T, s string, v uint64, rest string, ok bool) {
	t.Helper()
	if x, y, z := ToVar(s); x != v || y != rest || z != ok {
		t.Errorf("ToVar(%q): %d, %q, %v; want %d, %q, %v", s, x, y, z, v, rest, ok)
	}
}

func wantText(t *testing.T, s string, text, rest string, ok bool) {
	t.Helper()
	if x, y, z := ToText(s); x != text || y != rest || z != ok {
		t.Errorf("ToText(%q): %q, %q, %v; want %q, %q, %v", s, x, y, z, text, rest, ok)
	}
}

// B1

func TestCrcOfNothing(t *testing.T) {
	for _, l := range [][]string{nil, {}, {""}, {"", "", ""}} {
		if x := Crc(l...); x != 0 {
			t.Errorf("Crc(%q): %#x; want 0", l, x)
		}
	}
}

func TestCrcOfKnownTexts(t *testing.T) {
	for s, want := range map[string]uint32{
		"\x00":                     0xD202EF8D,
		"\xff":                     0xFF000000,
		"a":                        0xE8B7BE43,
		"abc":                      0x352441C2,
		"123456789":                0xCBF43926,
		"\x00\x00\x00\x00":         0x2144DF1C,
		"\xff\xff\xff\xff":         0xFFFFFFFF,
		strings.Repeat("\x00", 32): 0x190A55AD,
		strings.Repeat("\xff", 32): 0xFF6CAB0B,
		"The quick brown fox jumps over the lazy dog": 0x414FA339,
	} {
		if x := Crc(s); x != want {
			t.Errorf("Crc(%q): %#x; want %#x", s, x, want)
		}
	}
}

func TestCrcOfEachByte(t *testing.T) {
	for c := range 256 {
		for _, s := range []string{string([]byte{byte(c)}), string([]byte{'x', byte(c), 'y'})} {
			if x, want := Crc(s), crc32.ChecksumIEEE([]byte(s)); x != want {
				t.Errorf("Crc(%q): %#x; want %#x", s, x, want)
			}
		}
	}
}

func TestCrcOfChosenTexts(t *testing.T) {
	r := rand.New(rand.NewSource(1))
	for n := range 600 {
		s := chosenText(r, n)
		if x, want := Crc(s), crc32.ChecksumIEEE([]byte(s)); x != want {
			t.Errorf("Crc of %d bytes: %#x; want %#x", n, x, want)
		}
	}
}

// B2

func TestFixedBytes(t *testing.T) {
	for v, want := range map[uint32]string{
		0:          "\x00\x00\x00\x00",
		1:          "\x01\x00\x00\x00",
		255:        "\xff\x00\x00\x00",
		256:        "\x00\x01\x00\x00",
		1 << 16:    "\x00\x00\x01\x00",
		1 << 24:    "\x00\x00\x00\x01",
		1 << 31:    "\x00\x00\x00\x80",
		0x01020304: "\x04\x03\x02\x01",
		0xFEDCBA98: "\x98\xba\xdc\xfe",
		1<<32 - 1:  "\xff\xff\xff\xff",
	} {
		if s := Fixed(v); s != want {
			t.Errorf("Fixed(%#x): %q; want %q", v, s, want)
		}
		wantFixed(t, want, v, "", true)
	}
}

func TestFixedIsCutShort(t *testing.T) {
	for _, s := range []string{"", "\x00", "a", "ab", "abc", "\xff\xff\xff"} {
		wantFixed(t, s, 0, "", false)
	}
	wantFixed(t, "abcd", 0x64636261, "", true)
	wantFixed(t, "abcde", 0x64636261, "e", true)
	wantFixed(t, "\x00\x00\x00\x00\x00", 0, "\x00", true)
}

// B3

func TestVarBytes(t *testing.T) {
	for v, want := range map[uint64]string{
		0:         "\x00",
		1:         "\x01",
		127:       "\x7f",
		128:       "\x80\x01",
		129:       "\x81\x01",
		255:       "\xff\x01",
		300:       "\xac\x02",
		1<<14 - 1: "\xff\x7f",
		1 << 14:   "\x80\x80\x01",
		1<<21 - 1: "\xff\xff\x7f",
		1 << 32:   "\x80\x80\x80\x80\x10",
		1<<63 - 1: "\xff\xff\xff\xff\xff\xff\xff\xff\x7f",
		1 << 63:   "\x80\x80\x80\x80\x80\x80\x80\x80\x80\x01",
		1<<64 - 1: "\xff\xff\xff\xff\xff\xff\xff\xff\xff\x01",
	} {
		if s := Var(v); s != want {
			t.Errorf("Var(%d): %q; want %q", v, s, want)
		}
		wantVar(t, want, v, "", true)
	}
}

func TestVarOfSeveral(t *testing.T) {
	for _, l := range [][]uint64{nil, {}} {
		if s := Var(l...); s != "" {
			t.Errorf("Var of no number: %q", s)
		}
	}
	l := edges()
	var want string
	for _, v := range l {
		want += Var(v)
	}
	if s := Var(l...); s != want {
		t.Errorf("Var of several: %q; want %q", s, want)
	}
	if s := Var(0, 0, 0); s != "\x00\x00\x00" {
		t.Errorf("Var(0, 0, 0): %q", s)
	}
}

func TestVarHasFewBytes(t *testing.T) {
	for _, v := range edges() {
		n := max(1, (new(big.Int).SetUint64(v).BitLen()+6)/7)
		if s := Var(v); len(s) != n {
			t.Errorf("Var(%d): %d bytes; want %d", v, len(s), n)
		}
	}
}

func TestToVarOfNoNumber(t *testing.T) {
	nine := strings.Repeat("\xff", 9)
	for _, s := range []string{
		"",
		// cut short
		"\x80", "\xff", "\x80\x80", nine,
		// of more bytes than there need be
		"\x80\x00", "\xff\x00", "\x80\x80\x00", "\x81\x80\x00", nine + "\x00", strings.Repeat("\x80", 9) + "\x00",
		// 2^64 and above
		nine + "\x02", nine + "\x03", nine + "\x40", nine + "\x7f", strings.Repeat("\x80", 9) + "\x02",
		// of more than ten bytes
		nine + "\x80", nine + "\x81", nine + "\xff", nine + "\x80\x00", nine + "\x81\x00", nine + "\xff\x01", nine + "\x81\x01",
		strings.Repeat("\x80", 10) + "\x01", strings.Repeat("\x80", 10) + "\x00", strings.Repeat("\xff", 1000),
	} {
		wantVar(t, s, 0, "", false)
		if s != "" && s[len(s)-1] < 128 { // no number that more bytes could mend
			wantVar(t, s+"\x01", 0, "", false)
		}
	}
}

func TestToVarOfWhatIsCut(t *testing.T) {
	for _, v := range edges() {
		s := Var(v)
		for n := range len(s) {
			wantVar(t, s[:n], 0, "", false)
		}
	}
}

// readVar tells what B3 asks of ToVar, by numbers without a bound.
func readVar(s string) (uint64, string, bool) {
	n := slices.IndexFunc([]byte(s), func(c byte) bool { return c < 128 })
	if n < 0 {
		return 0, "", false
	}
	v := new(big.Int)
	for k := n; k >= 0; k-- {
		v.Lsh(v, 7).Or(v, big.NewInt(int64(s[k]&127)))
	}
	if !v.IsUint64() || n > 0 && s[n] == 0 {
		return 0, "", false
	}
	return v.Uint64(), s[n+1:], true
}

func TestToVarOfAllShortTexts(t *testing.T) {
	for a := range 256 {
		for b := range 256 {
			s := string([]byte{byte(a), byte(b)})
			v, rest, ok := readVar(s)
			wantVar(t, s, v, rest, ok)
			s = strings.Repeat("\x80", 8) + s
			v, rest, ok = readVar(s)
			wantVar(t, s, v, rest, ok)
		}
	}
}

func TestToVarOfChosenTexts(t *testing.T) {
	r := rand.New(rand.NewSource(2))
	pick := []byte{0, 1, 2, 127, 128, 129, 255, 128, 255, 200}
	for range 50000 {
		b := make([]byte, r.Intn(14))
		for i := range b {
			b[i] = pick[r.Intn(len(pick))]
			if i < 8 && r.Intn(4) > 0 {
				b[i] |= 128
			}
		}
		v, rest, ok := readVar(string(b))
		wantVar(t, string(b), v, rest, ok)
	}
}

// B4

func TestTextBytes(t *testing.T) {
	for s, want := range map[string]string{
		"":     "\x00",
		"a":    "\x01a",
		"\x00": "\x01\x00",
		"\x80": "\x01\x80",
		"é":    "\x02\xc3\xa9",
	} {
		if x := Text(s); x != want {
			t.Errorf("Text(%q): %q; want %q", s, x, want)
		}
		wantText(t, want, s, "", true)
	}
	for n, head := range map[int]string{126: "\x7e", 127: "\x7f", 128: "\x80\x01", 129: "\x81\x01", 300: "\xac\x02", 16383: "\xff\x7f", 16384: "\x80\x80\x01"} {
		s := strings.Repeat("q", n)
		if x := Text(s); x != head+s {
			t.Errorf("Text of %d bytes begins with %q; want %q", n, x[:min(len(x), 3)], head)
		}
		wantText(t, head+s, s, "", true)
		wantText(t, head+s+"q", s, "q", true)
		wantText(t, head+s[1:], "", "", false)
	}
}

func TestTextOfSeveral(t *testing.T) {
	for _, l := range [][]string{nil, {}} {
		if s := Text(l...); s != "" {
			t.Errorf("Text of no text: %q", s)
		}
	}
	long := strings.Repeat("z", 128)
	if s, want := Text("", "ab", "", long, "c"), "\x00\x02ab\x00\x80\x01"+long+"\x01c"; s != want {
		t.Errorf("Text of several: %q; want %q", s, want)
	}
	if s := Text("", "", ""); s != "\x00\x00\x00" {
		t.Errorf("Text of three empty ones: %q", s)
	}
}

func TestToTextOfNoText(t *testing.T) {
	for _, s := range []string{
		"",
		// cut short
		"\x01", "\x02a", "\x03ab", "\x7f" + strings.Repeat("a", 126), "\x80\x01" + strings.Repeat("a", 127),
		// a length that is cut short
		"\x80", "\xff\xff",
		// a length larger than any text
		Var(1<<31) + "abc", Var(1<<32) + "abc", Var(1<<32+1) + "abc", Var(1<<63-1) + "abc", Var(1<<63) + "abc", Var(1<<63+3) + "abc",
		Var(1<<64-1) + "abc", Var(1<<64-4) + "abc",
		// a length that is no number of Var's
		"\x80\x00", "\x82\x00ab", "\x82\x80\x00ab", strings.Repeat("\x80", 9) + "\x00", strings.Repeat("\x80", 9) + "\x02abc", strings.Repeat("\x80", 10) + "\x01abc",
	} {
		wantText(t, s, "", "", false)
	}
}

func TestToTextOfWhatIsCut(t *testing.T) {
	for _, n := range []int{0, 1, 127, 128, 300} {
		s := Text(strings.Repeat("\x05", n))
		for k := range len(s) {
			wantText(t, s[:k], "", "", false)
		}
	}
}

// B5

func TestNumbersAreReadAsTheyWere(t *testing.T) {
	r := rand.New(rand.NewSource(3))
	l := edges()
	for range 2000 {
		l = append(l, chosenNumber(r))
	}
	for _, v := range l {
		for _, tail := range tails() {
			wantVar(t, Var(v)+tail, v, tail, true)
			wantFixed(t, Fixed(uint32(v))+tail, uint32(v), tail, true)
		}
	}
	s := Var(l...)
	for _, want := range l {
		v, rest, ok := ToVar(s)
		if v != want || !ok {
			t.Fatalf("ToVar within a row: %d, %v; want %d", v, ok, want)
		}
		s = rest
	}
	if s != "" {
		t.Errorf("%d bytes are left of a row of numbers", len(s))
	}
}

func TestTextsAreReadAsTheyWere(t *testing.T) {
	r := rand.New(rand.NewSource(4))
	var l []string
	for n := range 300 {
		l = append(l, chosenText(r, n))
	}
	l = append(l, chosenText(r, 20000), "", "")
	for _, s := range l {
		for _, tail := range tails() {
			wantText(t, Text(s)+tail, s, tail, true)
		}
	}
	s := Text(l...)
	for _, want := range l {
		x, rest, ok := ToText(s)
		if x != want || !ok {
			t.Fatalf("ToText within a row: %q, %v; want %q", x, ok, want)
		}
		s = rest
	}
	if s != "" {
		t.Errorf("%d bytes are left of a row of texts", len(s))
	}
}

func TestNothingElseIsRead(t *testing.T) {
	r := rand.New(rand.NewSource(5))
	for range 20000 {
		s := chosenText(r, r.Intn(12))
		if len(s) > 0 && r.Intn(2) == 0 {
			s = string([]byte{byte(r.Intn(14))}) + s[1:]
		}
		if v, rest, ok := ToFixed(s); ok && Fixed(v)+rest != s {
			t.Errorf("ToFixed(%q): %d, %q", s, v, rest)
		}
		if v, rest, ok := ToVar(s); ok && Var(v)+rest != s {
			t.Errorf("ToVar(%q): %d, %q", s, v, rest)
		}
		if x, rest, ok := ToText(s); ok && Text(x)+rest != s {
			t.Errorf("ToText(%q): %q, %q", s, x, rest)
		}
	}
}

func TestCrcOfPartsIsThatOfAll(t *testing.T) {
	s := "123456789"
	for i := range len(s) + 1 {
		for k := i; k <= len(s); k++ {
			for _, l := range [][]string{{s[:i], s[i:k], s[k:]}, {"", s[:i], "", "", s[i:k], s[k:], ""}} {
				if x := Crc(l...); x != 0xCBF43926 {
					t.Errorf("Crc(%q): %#x", l, x)
				}
			}
		}
	}
	r := rand.New(rand.NewSource(6))
	for range 200 {
		var l []string
		for range r.Intn(20) {
			l = append(l, chosenText(r, r.Intn(40)*r.Intn(2)))
		}
		if x, want := Crc(l...), Crc(strings.Join(l, "")); x != want {
			t.Errorf("Crc of %d parts: %#x; of all together %#x", len(l), x, want)
		}
	}
}

// turned is s with those of the 32 bits from bit at on (the lowest of a byte first) turned that are set in bits; false, if one of them lies behind s.
func turned(s string, at int, bits uint32) (string, bool) {
	b := []byte(s)
	for k := range 32 {
		if bits>>k&1 == 0 {
			continue
		}
		if i := at + k; i/8 < len(b) {
			b[i/8] ^= 1 << (i % 8)
		} else {
			return "", false
		}
	}
	return string(b), true
}

func TestOneBitIsSeen(t *testing.T) {
	r := rand.New(rand.NewSource(7))
	for _, n := range []int{1, 2, 3, 4, 5, 8, 40, 256} {
		for _, s := range []string{chosenText(r, n), strings.Repeat("\x00", n), strings.Repeat("\xff", n)} {
			for at := range 8 * n {
				if x, _ := turned(s, at, 1); Crc(x) == Crc(s) {
					t.Errorf("%d bytes: bit %d is not seen", n, at)
				}
			}
		}
	}
}

func TestBitsBesideOneAnotherAreSeen(t *testing.T) {
	r := rand.New(rand.NewSource(8))
	fixed := []uint32{3, 0xFF, 0xFFFF, 1<<31 | 1, 1<<32 - 1, polynomial, 0x04C11DB7, 0xAAAAAAAA, 0x55555555}
	for range 20000 {
		s := chosenText(r, 1+r.Intn(60))
		bits := uint32(chosenNumber(r))
		if r.Intn(3) == 0 {
			bits = fixed[r.Intn(len(fixed))]
		}
		x, ok := turned(s, r.Intn(8*len(s)), bits)
		if ok && bits != 0 && Crc(x) == Crc(s) {
			t.Errorf("%q and %q have one Crc", s, x)
		}
	}
}

// What the document's examples say.

func TestExamples(t *testing.T) {
	if Crc("123456789") != 0xCBF43926 || Crc("1234", "56789") != 0xCBF43926 || Crc() != 0 {
		t.Error("Crc")
	}
	if s := Fixed(0x01020304); s != "\x04\x03\x02\x01" {
		t.Errorf("Fixed: %q", s)
	}
	wantFixed(t, "abc", 0, "", false)
	if s := Var(0, 127, 128, 300); s != "\x00\x7f\x80\x01\xac\x02" {
		t.Errorf("Var: %q", s)
	}
	wantVar(t, "\x80\x00", 0, "", false)
	wantVar(t, "\xac\x02\x09", 300, "\x09", true)
	if s := Text("ab", ""); s != "\x02ab\x00" {
		t.Errorf("Text: %q", s)
	}
	wantText(t, "\x03ab", "", "", false)
}

// P3

func TestListsAreLetBe(t *testing.T) {
	numbers := []uint64{300, 1 << 40, 7, 9}
	Var(numbers[:2]...)
	if !slices.Equal(numbers, []uint64{300, 1 << 40, 7, 9}) {
		t.Errorf("Var wrote into its list: %d", numbers)
	}
	texts := []string{"a", "bc", "d", "e"}
	Text(texts[:2]...)
	Crc(texts[:2]...)
	if !slices.Equal(texts, []string{"a", "bc", "d", "e"}) {
		t.Errorf("Text or Crc wrote into its list: %q", texts)
	}
}
