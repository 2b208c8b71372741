package frame

import (
	"encoding/binary"
	"hash/crc32"
	"math"
	"math/rand"
	"slices"
	"strings"
	"testing"

	"codex/api"
)

// Places in a head, in bytes.
const (
	placeSeq    = 4
	placeN      = 12
	placeBlocks = 16
	placeSum    = 248
	placeEnd    = 252
)

func full(s string) string { return strings.Repeat(s, api.BlockSize) }

func chosenText(r *rand.Rand, n int) string {
	b := make([]byte, n)
	for i := range b {
		b[i] = byte(r.Intn(256))
	}
	return string(b)
}

func chosenWrites(r *rand.Rand, n int) []api.Write {
	l := make([]api.Write, n)
	for i := range l {
		l[i] = api.Write{Block: r.Intn(api.MaxBlocks), Data: chosenText(r, api.BlockSize)}
	}
	return l
}

// sameWrites are n writes that no call refuses.
func sameWrites(n int) []api.Write {
	return slices.Repeat([]api.Write{{Block: 3, Data: full("d")}}, n)
}

// formed is a frame, written down from the document without the package's own code.
func formed(seq uint64, l []api.Write) []string {
	head := make([]byte, api.BlockSize)
	copy(head, "CDXT")
	binary.LittleEndian.PutUint64(head[placeSeq:], seq)
	binary.LittleEndian.PutUint32(head[placeN:], uint32(len(l)))
	var data []string
	for i, w := range l {
		binary.LittleEndian.PutUint32(head[placeBlocks+4*i:], uint32(w.Block))
		data = append(data, w.Data)
	}
	summed := string(head[:placeSum]) + strings.Join(data, "")
	binary.LittleEndian.PutUint32(head[placeSum:], crc32.ChecksumIEEE([]byte(summed)))
	copy(head[placeEnd:], "CDXE")
	return append([]string{string(head)}, data...)
}

// mightBegin is what Head is to answer, read byte by byte.
func mightBegin(s string) (uint64, int, bool) {
	if len(s) != 256 || s[:4] != "CDXT" || s[252:] != "CDXE" {
		return 0, 0, false
	}
	b := []byte(s)
	n := int64(binary.LittleEndian.Uint32(b[placeN:]))
	if n == 0 || n > 48 {
		return 0, 0, false
	}
	behind := placeBlocks + 4*int(n)
	for i := placeBlocks; i < behind; i += 4 {
		if binary.LittleEndian.Uint32(b[i:]) > 4095 {
			return 0, 0, false
		}
	}
	if strings.Trim(s[behind:placeSum], "\x00") != "" {
		return 0, 0, false
	}
	return binary.LittleEndian.Uint64(b[placeSeq:]), int(n), true
}

// laid is s with other bytes at a place.
func laid(s string, at int, bytes string) string { return s[:at] + bytes + s[at+len(bytes):] }

// number is four bytes, the lowest first.
func number(v uint32) string { return string(binary.LittleEndian.AppendUint32(nil, v)) }

// with is a list with another element at a place.
func with(l []string, at int, s string) []string {
	l = slices.Clone(l)
	l[at] = s
	return l
}

func wantPack(t *testing.T, seq uint64, l []api.Write) []string {
	t.Helper()
	x, e := Pack(seq, l)
	if e != api.OK || !slices.Equal(x, formed(seq, l)) {
		t.Fatalf("Pack(%d, %d writes): %q, %v; want %q", seq, len(l), x, e, formed(seq, l))
	}
	return x
}

func wantNoPack(t *testing.T, l []api.Write, want api.Errno) {
	t.Helper()
	if x, e := Pack(1, l); len(x) != 0 || e != want {
		t.Errorf("Pack of %d writes: %d blocks, %v; want none, %v", len(l), len(x), e, want)
	}
}

func wantHead(t *testing.T, what, block string, seq uint64, n int) {
	t.Helper()
	if x, y, ok := Head(block); x != seq || y != n || !ok {
		t.Errorf("Head, %s: %d, %d, %v; want %d, %d, true", what, x, y, ok, seq, n)
	}
}

func wantNoHead(t *testing.T, what, block string) {
	t.Helper()
	if x, y, ok := Head(block); x != 0 || y != 0 || ok {
		t.Errorf("Head, %s: %d, %d, %v; want 0, 0, false", what, x, y, ok)
	}
}

func wantUnpack(t *testing.T, what string, l []string, seq uint64, writes []api.Write) {
	t.Helper()
	if x, y, e := Unpack(l); x != seq || !slices.Equal(y, writes) || e != api.OK {
		t.Errorf("Unpack, %s: %d, %d writes, %v; want %d, %d writes, OK", what, x, len(y), e, seq, len(writes))
	}
}

func wantNoUnpack(t *testing.T, what string, l []string, want api.Errno) {
	t.Helper()
	if x, y, e := Unpack(l); x != 0 || len(y) != 0 || e != want {
		t.Errorf("Unpack, %s: %d, %d writes, %v; want 0, none, %v", what, x, len(y), e, want)
	}
}

// Examples

func TestExamples(t *testing.T) {
	w := []api.Write{{Block: 7, Data: full("a")}}
	l, e := Pack(1, w)
	if e != api.OK || len(l) != 2 {
		t.Fatal(len(l), e)
	}
	wantHead(t, "the first block", l[0], 1, 1)
	wantUnpack(t, "both", l, 1, w)
	wantNoUnpack(t, "the first alone", l[:1], api.ErrForm)
	wantNoUnpack(t, "another one behind", []string{l[0], full("b")}, api.ErrSum)
	wantNoPack(t, nil, api.ErrMany)
}

// F1

func TestPackBytes(t *testing.T) {
	l := wantPack(t, 0x0102030405060708, []api.Write{{Block: 0, Data: full("a")}, {Block: 4095, Data: full("b")}, {Block: 258, Data: full("c")}})
	begin := "CDXT\x08\x07\x06\x05\x04\x03\x02\x01\x03\x00\x00\x00" + "\x00\x00\x00\x00\xff\x0f\x00\x00\x02\x01\x00\x00"
	if len(l) != 4 || l[1] != full("a") || l[2] != full("b") || l[3] != full("c") {
		t.Fatalf("%q", l)
	}
	if want := begin + strings.Repeat("\x00", 248-len(begin)); l[0][:248] != want {
		t.Errorf("%q; want %q", l[0][:248], want)
	}
	sum := crc32.ChecksumIEEE([]byte(l[0][:248] + l[1] + l[2] + l[3]))
	if want := number(sum) + "CDXE"; l[0][248:] != want {
		t.Errorf("%q; want %q", l[0][248:], want)
	}
}

func TestPackOfNumbers(t *testing.T) {
	for _, seq := range []uint64{0, 1, 255, 256, 1<<31 - 1, 1 << 31, 1<<32 - 1, 1 << 32, 1<<32 + 1, 1<<40 + 5, 1<<63 - 1, 1 << 63, 1<<64 - 1} {
		l := wantPack(t, seq, sameWrites(2))
		wantHead(t, "of a number", l[0], seq, 2)
		wantUnpack(t, "of a number", l, seq, sameWrites(2))
	}
	for k := range 64 {
		l := wantPack(t, 1<<k, sameWrites(1))
		wantHead(t, "of a number", l[0], 1<<k, 1)
	}
}

func TestPackOfManyWrites(t *testing.T) {
	r := rand.New(rand.NewSource(1))
	for n := 1; n <= 48; n++ {
		w := chosenWrites(r, n)
		if l := wantPack(t, uint64(n), w); len(l) != n+1 {
			t.Errorf("Pack of %d writes: %d blocks", n, len(l))
		}
	}
	for _, n := range []int{49, 50, 58, 59, 100, 304, 5000} {
		wantNoPack(t, sameWrites(n), api.ErrMany)
	}
	wantNoPack(t, []api.Write{}, api.ErrMany)
	// ErrMany is told ahead of what a write has.
	wantNoPack(t, make([]api.Write, 49), api.ErrMany)
	wantNoPack(t, slices.Repeat([]api.Write{{Block: -1}}, 49), api.ErrMany)
}

func TestPackOfBlocks(t *testing.T) {
	for _, b := range []int{0, 1, 7, 255, 256, 4094, 4095} {
		wantPack(t, 1, []api.Write{{Block: b, Data: full("a")}})
	}
	for _, b := range []int{-1, -4095, -4096, 4096, 4097, 8191, 1 << 16, 1<<32 - 1, 1 << 32, 1<<32 + 7, -1 << 32, math.MaxInt, math.MinInt} {
		wantNoPack(t, []api.Write{{Block: b, Data: full("a")}}, api.ErrRange)
		wantNoPack(t, []api.Write{{Block: b}}, api.ErrRange)
		w := sameWrites(48)
		w[47].Block = b
		wantNoPack(t, w, api.ErrRange)
	}
}

func TestPackOfSizes(t *testing.T) {
	for _, n := range []int{0, 1, 128, 255, 257, 512, 65792} {
		s := strings.Repeat("a", n)
		wantNoPack(t, []api.Write{{Block: 7, Data: s}}, api.ErrSize)
		w := sameWrites(48)
		w[47].Data = s
		wantNoPack(t, w, api.ErrSize)
		// another one is too long by what this one lacks
		wantNoPack(t, []api.Write{{Block: 7, Data: s}, {Block: 7, Data: strings.Repeat("a", max(0, 512-n))}}, api.ErrSize)
	}
	wantPack(t, 1, []api.Write{{Block: 7, Data: strings.Repeat("a", 256)}})
}

func TestPackTellsTheFirstWrite(t *testing.T) {
	good, far, short, both := api.Write{Block: 1, Data: full("a")}, api.Write{Block: 4096, Data: full("a")}, api.Write{Block: 1, Data: "a"}, api.Write{Block: -1, Data: "a"}
	for _, c := range []struct {
		l []api.Write
		e api.Errno
	}{
		{[]api.Write{far, short}, api.ErrRange},
		{[]api.Write{short, far}, api.ErrSize},
		{[]api.Write{good, short, far}, api.ErrSize},
		{[]api.Write{good, far, short}, api.ErrRange},
		{[]api.Write{both}, api.ErrRange},
		{[]api.Write{both, short}, api.ErrRange},
		{[]api.Write{short, both}, api.ErrSize},
		{[]api.Write{good, good, both, good}, api.ErrRange},
	} {
		wantNoPack(t, c.l, c.e)
	}
}

// A transaction may write one block more than once: the order says what it is in the end.
func TestPackOfOneBlockTwice(t *testing.T) {
	w := []api.Write{{Block: 5, Data: full("a")}, {Block: 5, Data: full("b")}, {Block: 5, Data: full("a")}}
	wantUnpack(t, "one block thrice", wantPack(t, 1, w), 1, w)
}

// F2

func TestHeadOfFrames(t *testing.T) {
	r := rand.New(rand.NewSource(2))
	for n := 1; n <= 48; n++ {
		seq := r.Uint64()
		wantHead(t, "a frame's", formed(seq, chosenWrites(r, n))[0], seq, n)
	}
}

func TestHeadOfSizes(t *testing.T) {
	// a sum of noughts, so that a byte less or more ahead of the end changes nothing but the size
	h := laid(formed(9, sameWrites(1))[0], placeSum, number(0))
	wantHead(t, "256 bytes", h, 9, 1)
	for what, s := range map[string]string{
		"no byte":             "",
		"4 bytes":             "CDXT",
		"8 bytes":             "CDXTCDXE",
		"255, less the first": h[1:],
		"255, less the last":  h[:255],
		"255, with its end":   h[:247] + h[248:],
		"252 bytes":           h[:252],
		"257, one behind":     h + "\x00",
		"257, one ahead":      "\x00" + h,
		"257, with its end":   h[:247] + "\x00" + h[247:],
		"512":                 h + h,
	} {
		wantNoHead(t, what, s)
	}
}

func TestHeadOfBeginningsAndEnds(t *testing.T) {
	h := formed(9, sameWrites(1))[0]
	for k := range 32 {
		for _, at := range []int{0, placeEnd} {
			c := h[at+k/8] ^ 1<<(k%8)
			wantNoHead(t, "a bit of its words turned", laid(h, at+k/8, string([]byte{c})))
		}
	}
	for _, s := range []string{"cdxt", "CDXE", "CDXS", "TXDC", "\x00\x00\x00\x00", " CDX"} {
		wantNoHead(t, "beginning "+s, laid(h, 0, s))
	}
	for _, s := range []string{"cdxe", "CDXT", "CDXS", "EXDC", "\x00\x00\x00\x00", "DXE\x00"} {
		wantNoHead(t, "end "+s, laid(h, placeEnd, s))
	}
	wantNoHead(t, "noughts", full("\x00"))
	wantNoHead(t, "no head", full("C"))
}

func TestHeadOfCounts(t *testing.T) {
	// noughts are block 0, if n says so: with no other change each n is right, up to 48
	h := laid(formed(9, sameWrites(1))[0], placeBlocks, number(0))
	for n := range 400 {
		s := laid(h, placeN, number(uint32(n)))
		if n >= 1 && n <= 48 {
			wantHead(t, "a count", s, 9, n)
		} else {
			wantNoHead(t, "a count", s)
		}
	}
	for _, n := range []uint32{1 << 8, 1<<8 + 1, 1<<16 + 1, 1<<24 + 1, 1 << 31, 1<<31 + 1, 1<<32 - 1, 1<<32 - 48} {
		wantNoHead(t, "a great count", laid(h, placeN, number(n)))
	}
	one, most := formed(9, sameWrites(1))[0], formed(9, sameWrites(48))[0]
	wantNoHead(t, "0 of one", laid(one, placeN, number(0)))
	wantHead(t, "2 of one", laid(one, placeN, number(2)), 9, 2)
	wantHead(t, "48 of one", laid(one, placeN, number(48)), 9, 48)
	wantNoHead(t, "49 of one", laid(one, placeN, number(49)))
	wantNoHead(t, "0 of 48", laid(most, placeN, number(0)))
	wantNoHead(t, "1 of 48", laid(most, placeN, number(1)))
	wantNoHead(t, "47 of 48", laid(most, placeN, number(47)))
	wantNoHead(t, "49 of 48", laid(most, placeN, number(49)))
}

func TestHeadOfBlocks(t *testing.T) {
	for _, n := range []int{1, 2, 47, 48} {
		h := formed(9, sameWrites(n))[0]
		for _, i := range []int{0, n / 2, n - 1} {
			for _, b := range []uint32{0, 1, 255, 256, 4095} {
				wantHead(t, "a block", laid(h, placeBlocks+4*i, number(b)), 9, n)
			}
			for _, b := range []uint32{4096, 4097, 8191, 1 << 16, 1<<24 + 3, 1 << 31, 1<<31 + 3, 1<<32 - 1} {
				wantNoHead(t, "a block", laid(h, placeBlocks+4*i, number(b)))
			}
		}
	}
}

func TestHeadOfNoughts(t *testing.T) {
	for _, n := range []int{1, 2, 30, 47, 48} {
		h := formed(9, sameWrites(n))[0]
		for at := placeBlocks + 4*n; at < placeSum; at++ {
			for _, c := range []string{"\x01", "\x80", "\xff", "0"} {
				wantNoHead(t, "no nought behind the numbers", laid(h, at, c))
			}
		}
		wantNoHead(t, "no nought at 247", laid(h, 247, "\x01"))
	}
}

// The sum is not asked.
func TestHeadOfSums(t *testing.T) {
	for _, n := range []int{1, 48} {
		h := formed(9, sameWrites(n))[0]
		for at := placeSum; at < placeEnd; at++ {
			for c := range 256 {
				wantHead(t, "another sum", laid(h, at, string([]byte{byte(c)})), 9, n)
			}
		}
		wantHead(t, "a sum of 0", laid(h, placeSum, number(0)), 9, n)
	}
}

func TestHeadOfChosenBlocks(t *testing.T) {
	r := rand.New(rand.NewSource(3))
	right := 0
	for range 20000 {
		n := 1 + r.Intn(48)
		s := formed(r.Uint64(), sameWrites(n))[0]
		for range 1 + r.Intn(3) {
			switch r.Intn(4) {
			case 0:
				s = laid(s, r.Intn(256), chosenText(r, 1))
			case 1:
				s = laid(s, 4*r.Intn(64), number(uint32(r.Intn(5000))))
			case 2:
				s = laid(s, placeN, number(uint32(n+r.Intn(3)-1)))
			case 3:
				s = laid(s, placeSeq, chosenText(r, 8))
			}
		}
		seq, n, ok := mightBegin(s)
		if ok {
			right++
			wantHead(t, "chosen", s, seq, n)
		} else {
			wantNoHead(t, "chosen", s)
		}
	}
	if right < 2000 || right > 18000 {
		t.Errorf("%d of the chosen blocks are heads: too few of one kind", right)
	}
}

// F3

func TestUnpackOfFrames(t *testing.T) {
	r := rand.New(rand.NewSource(4))
	for n := 1; n <= 48; n++ {
		seq, w := r.Uint64(), chosenWrites(r, n)
		wantUnpack(t, "a frame", formed(seq, w), seq, w)
	}
}

func TestUnpackOfTooFewBlocks(t *testing.T) {
	wantNoUnpack(t, "nil", nil, api.ErrForm)
	wantNoUnpack(t, "no block", []string{}, api.ErrForm)
	for _, n := range []int{1, 2, 3, 48} {
		l := formed(9, sameWrites(n))
		for k := range n + 1 {
			wantNoUnpack(t, "too few", l[:k], api.ErrForm)
		}
		wantNoUnpack(t, "no head", l[1:], api.ErrForm)
	}
}

func TestUnpackOfNoHead(t *testing.T) {
	l := formed(9, sameWrites(2))
	for what, s := range map[string]string{
		"no byte":            "",
		"255 bytes":          l[0][:255],
		"257 bytes":          l[0] + "\x00",
		"noughts":            full("\x00"),
		"another beginning":  laid(l[0], 0, "CDXS"),
		"another end":        laid(l[0], placeEnd, "CDXT"),
		"n of 0":             laid(l[0], placeN, number(0)),
		"n of 1":             laid(l[0], placeN, number(1)),
		"n of 3":             laid(l[0], placeN, number(3)),
		"n of 49":            laid(l[0], placeN, number(49)),
		"block 4096":         laid(l[0], placeBlocks, number(4096)),
		"no nought":          laid(l[0], placeBlocks+8, "\x01"),
		"no nought at 247":   laid(l[0], 247, "\x01"),
		"torn, over noughts": l[0][:200] + strings.Repeat("\x00", 56),
	} {
		wantNoUnpack(t, what, with(l, 0, s), api.ErrForm)
	}
	wantNoUnpack(t, "the head behind", []string{l[1], l[0], l[2]}, api.ErrForm)
}

func TestUnpackOfSizes(t *testing.T) {
	for _, n := range []int{1, 3, 48} {
		l := formed(9, sameWrites(n))
		more := append(slices.Clone(l), full("z"), full("z"))
		for k := 1; k <= n; k++ {
			for _, size := range []int{0, 1, 255, 257, 512} {
				s := strings.Repeat("d", size)
				wantNoUnpack(t, "another size", with(l, k, s), api.ErrForm)
				wantNoUnpack(t, "another size, with more behind", with(more, k, s), api.ErrForm)
			}
		}
	}
	// the bytes of all are those that were summed, but spread otherwise
	l := formed(9, sameWrites(2))
	wantNoUnpack(t, "spread", []string{l[0], l[1] + "d", l[2][1:]}, api.ErrForm)
	// the size is told ahead of the sum
	wantNoUnpack(t, "sum and size", []string{l[0], full("x"), "x"}, api.ErrForm)
	wantNoUnpack(t, "sum and size", []string{l[0], "x", full("x")}, api.ErrForm)
	wantNoUnpack(t, "too few, and another sum", []string{l[0], full("x")}, api.ErrForm)
}

func TestUnpackOfOtherSums(t *testing.T) {
	w := []api.Write{{Block: 1, Data: full("a")}, {Block: 2, Data: full("b")}}
	l := formed(9, w)
	for what, x := range map[string][]string{
		"other data first":  with(l, 1, full("x")),
		"other data last":   with(l, 2, full("x")),
		"data changed over": {l[0], l[2], l[1]},
		"another number":    with(l, 0, laid(l[0], placeSeq, "\x08")),
		"a greater number":  with(l, 0, laid(l[0], placeSeq+7, "\x01")),
		"another block":     with(l, 0, laid(l[0], placeBlocks, number(3))),
		"the last block":    with(l, 0, laid(l[0], placeBlocks+4, number(4095))),
		"a sum of 0":        with(l, 0, laid(l[0], placeSum, number(0))),
		"all bits of it":    with(l, 0, laid(l[0], placeSum, number(1<<32-1))),
		"another's sum":     with(l, 0, laid(l[0], placeSum, formed(8, w)[0][placeSum:placeEnd])),
		"another's head":    with(l, 0, formed(9, sameWrites(2))[0]),
		"one write more":    append(with(l, 0, laid(l[0], placeN, number(3))), full("c")),
	} {
		wantNoUnpack(t, what, x, api.ErrSum)
		wantNoUnpack(t, what+", with more behind", append(x, full("z")), api.ErrSum)
	}
}

func TestUnpackLetsBeWhatStandsBehind(t *testing.T) {
	for _, n := range []int{1, 2, 48} {
		w := sameWrites(n)
		l := formed(9, w)
		for what, more := range map[string][]string{
			"no byte":       {""},
			"one byte":      {"z"},
			"255":           {strings.Repeat("z", 255)},
			"256":           {full("z")},
			"257":           {strings.Repeat("z", 257)},
			"noughts":       {full("\x00")},
			"the same once": l,
			"another frame": formed(10, sameWrites(3)),
			"many":          slices.Repeat([]string{"z", full("z")}, 200),
		} {
			wantUnpack(t, what, slices.Concat(l, more), 9, w)
		}
	}
}

func TestUnpackOfChosenLists(t *testing.T) {
	r := rand.New(rand.NewSource(5))
	frames := [][]string{formed(1, chosenWrites(r, 1)), formed(2, chosenWrites(r, 2)), formed(3, chosenWrites(r, 5))}
	pool := append(slices.Concat(frames...), "", "x", full("\x00"), full("z"))
	for range 5000 {
		var l []string
		for range r.Intn(8) {
			l = append(l, pool[r.Intn(len(pool))])
		}
		if r.Intn(2) == 0 {
			l = append(slices.Clone(frames[r.Intn(3)]), l...)
		}
		seq, writes, e := unpacked(l)
		if e == api.OK {
			wantUnpack(t, "chosen", l, seq, writes)
		} else {
			wantNoUnpack(t, "chosen", l, e)
		}
	}
}

// unpacked is what Unpack is to answer.
func unpacked(l []string) (uint64, []api.Write, api.Errno) {
	if len(l) == 0 {
		return 0, nil, api.ErrForm
	}
	seq, n, ok := mightBegin(l[0])
	if !ok || len(l) < n+1 || slices.ContainsFunc(l[1:n+1], func(s string) bool { return len(s) != 256 }) {
		return 0, nil, api.ErrForm
	}
	var writes []api.Write
	for i := range n {
		writes = append(writes, api.Write{Block: int(binary.LittleEndian.Uint32([]byte(l[0][placeBlocks+4*i:]))), Data: l[i+1]})
	}
	if formed(seq, writes)[0] != l[0] {
		return 0, nil, api.ErrSum
	}
	return seq, writes, api.OK
}

// F4

func TestPackedIsUnpacked(t *testing.T) {
	r := rand.New(rand.NewSource(6))
	for range 300 {
		seq, w := r.Uint64()>>r.Intn(64), chosenWrites(r, 1+r.Intn(48))
		l, e := Pack(seq, w)
		if e != api.OK {
			t.Fatal(e)
		}
		wantHead(t, "packed", l[0], seq, len(w))
		wantUnpack(t, "packed", l, seq, w)
		for range r.Intn(5) {
			l = append(l, chosenText(r, r.Intn(400)))
		}
		wantUnpack(t, "packed, with more behind", l, seq, w)
	}
}

// Frames one behind the other are unpacked one by one.
func TestFramesInARow(t *testing.T) {
	r := rand.New(rand.NewSource(7))
	var row []string
	var all [][]api.Write
	for seq := range 10 {
		w := chosenWrites(r, 1+r.Intn(6))
		l, _ := Pack(uint64(seq), w)
		row, all = append(row, l...), append(all, w)
	}
	for seq, w := range all {
		wantUnpack(t, "in a row", row, uint64(seq), w)
		row = row[len(w)+1:]
	}
}

// turned is a frame in which bits are turned: bit k of a byte stands k places behind its first, as the sum goes through them.
func turned(l []string, from int, mask uint32) []string {
	b := []byte(strings.Join(l, ""))
	for k := range 32 {
		if mask>>k&1 == 1 {
			b[(from+k)/8] ^= 1 << ((from + k) % 8)
		}
	}
	var out []string
	for ; len(b) > 0; b = b[256:] {
		out = append(out, string(b[:256]))
	}
	return out
}

// stretches are where F4 lets bits be turned, from and up to, in bits.
func stretches(n int) [][2]int {
	return [][2]int{{0, 8 * placeN}, {8 * placeBlocks, 8 * placeSum}, {8 * placeSum, 8 * placeEnd}, {8 * 256, 8 * 256 * (n + 1)}}
}

func wantTurned(t *testing.T, l []string, from int, mask uint32) {
	t.Helper()
	x := turned(l, from, mask)
	_, _, want := unpacked(x)
	if seq, w, e := Unpack(x); e == api.OK || e != want || seq != 0 || len(w) != 0 {
		t.Errorf("Unpack of %d blocks, bits %#x from %d on turned: %d, %d writes, %v; want 0, none, %v", len(l), mask, from, seq, len(w), e, want)
	}
}

func TestOneBitTurned(t *testing.T) {
	r := rand.New(rand.NewSource(8))
	for _, n := range []int{1, 2} {
		l := wantPack(t, r.Uint64(), chosenWrites(r, n))
		for _, s := range stretches(n) {
			for at := s[0]; at < s[1]; at++ {
				wantTurned(t, l, at, 1)
			}
		}
	}
	l := wantPack(t, r.Uint64(), chosenWrites(r, 48))
	for _, s := range stretches(48) {
		for at := s[0]; at < s[1]; at += 1 + r.Intn(500) {
			wantTurned(t, l, at, 1)
		}
		wantTurned(t, l, s[1]-1, 1)
	}
}

func TestBitsTurnedBesideOneAnother(t *testing.T) {
	r := rand.New(rand.NewSource(9))
	for _, n := range []int{1, 2, 48} {
		l := wantPack(t, r.Uint64(), chosenWrites(r, n))
		for _, s := range stretches(n) {
			gap := (s[1] - s[0]) * (n + 10) / 200
			for size := 1; size <= 32; size++ {
				whole := uint32(1<<size - 1)
				for at := s[0]; at+size <= s[1]; at += 1 + r.Intn(gap) {
					wantTurned(t, l, at, whole)
					wantTurned(t, l, at, r.Uint32()&whole|1|1<<(size-1))
				}
				wantTurned(t, l, s[1]-size, whole)
			}
		}
	}
}

// Bits on both sides of where one block of the data ends.
func TestBitsTurnedAcrossBlocks(t *testing.T) {
	r := rand.New(rand.NewSource(10))
	l := wantPack(t, r.Uint64(), chosenWrites(r, 3))
	for _, end := range []int{8 * 512, 8 * 768} {
		for back := 1; back < 32; back++ {
			wantTurned(t, l, end-back, 1<<32-1)
			wantTurned(t, l, end-back, 1|1<<31)
		}
	}
}

// P1, P3

func TestAnyInput(t *testing.T) {
	r := rand.New(rand.NewSource(11))
	for range 3000 {
		s := chosenText(r, r.Intn(300))
		wantNoHead(t, "chosen", s)
		wantNoUnpack(t, "chosen", []string{s, s, "", s}, api.ErrForm)
	}
	for n := range 300 {
		wantNoHead(t, "a beginning alone", "CDXT"+strings.Repeat("\x01", n))
		wantNoHead(t, "an end alone", strings.Repeat("\x01", n)+"CDXE")
	}
	for _, c := range []string{"\x00", "\xff", "\x01"} {
		wantNoHead(t, "one byte all along", "CDXT"+strings.Repeat(c, 248)+"CDXE")
	}
}

func TestInputIsLetBe(t *testing.T) {
	w := append(sameWrites(2), api.Write{Block: 9, Data: "behind"})
	l, e := Pack(1, w[:2])
	if e != api.OK || !slices.Equal(w, append(sameWrites(2), api.Write{Block: 9, Data: "behind"})) {
		t.Error("Pack changes what it is given")
	}
	l = append(l, "behind", "far behind")
	was := slices.Clone(l)
	_, x, e := Unpack(l[:3])
	if e != api.OK || !slices.Equal(l, was) {
		t.Error("Unpack changes what it is given")
	}
	wantNoUnpack(t, "what lies behind the length", l[:2], api.ErrForm)
	x[0] = api.Write{Block: 99}
	if !slices.Equal(l, was) {
		t.Error("Unpack's answer shares what it was given")
	}
	wantUnpack(t, "once more", l, 1, sameWrites(2))
}

func TestAnswersShareNothing(t *testing.T) {
	w := sameWrites(2)
	a, _ := Pack(1, w)
	b, _ := Pack(1, w)
	for i := range a {
		a[i] = ""
	}
	if !slices.Equal(b, formed(1, w)) {
		t.Error("two answers of Pack share a list")
	}
	_, x, _ := Unpack(b)
	_, y, _ := Unpack(b)
	clear(x)
	_ = append(x[:1], api.Write{Block: 77})
	if !slices.Equal(y, w) {
		t.Error("two answers of Unpack share a list")
	}
	w[0], w[1] = api.Write{}, api.Write{}
	if !slices.Equal(b, formed(1, sameWrites(2))) {
		t.Error("Pack's answer shares what it was given")
	}
}
