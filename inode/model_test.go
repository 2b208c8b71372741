package inode_test

import (
	"encoding/binary"
	"hash/crc32"
	"math/big"
	"math/rand"
	"reflect"
	"slices"
	"strings"
	"testing"

	"codex/api"
	"codex/inode"
)

// The document's words, written down without the package's own code.

func modelName(s string) bool {
	return len(s) > 0 && len(s) < 25 && strings.Trim(s, "abcdefghijklmnopqrstuvwxyz0123456789.-_") == ""
}

func modelRight(l []inode.File, first, blocks int) bool {
	if len(l) > 64 {
		return false
	}
	var all []api.Extent
	for i, f := range l {
		if !modelName(f.Name) || i > 0 && strings.Compare(l[i-1].Name, f.Name) >= 0 || f.Size < 0 || len(f.Extents) > 16 {
			return false
		}
		has := new(big.Int)
		for _, x := range f.Extents {
			if x.Count <= 0 {
				return false
			}
			has.Add(has, big.NewInt(int64(x.Count)))
		}
		needs := new(big.Int).Add(big.NewInt(int64(f.Size)), big.NewInt(255))
		if has.Cmp(needs.Div(needs, big.NewInt(256))) != 0 {
			return false
		}
		all = append(all, f.Extents...)
	}
	return apart(all, first, blocks)
}

// apart tells whether extents lie among first to blocks - 1, and no two have a block in common: each is held against each.
func apart(l []api.Extent, first, blocks int) bool {
	for i, x := range l {
		end := new(big.Int).Add(big.NewInt(int64(x.Start)), big.NewInt(int64(x.Count)))
		if x.Start < first || end.Cmp(big.NewInt(int64(blocks))) > 0 {
			return false
		}
		for _, y := range l[:i] {
			if x.Start < y.Start+y.Count && y.Start < x.Start+x.Count {
				return false
			}
		}
	}
	return true
}

func modelFind(l []inode.File, name string) (int, bool) {
	for i, f := range l {
		if f.Name >= name {
			return i, f.Name == name
		}
	}
	return len(l), false
}

// summed are a directory's bytes ahead of its Crc, right or not.
func summed(l []inode.File) string {
	b := binary.AppendUvarint([]byte("CDXI"), uint64(len(l)))
	for _, f := range l {
		b = append(binary.AppendUvarint(b, uint64(len(f.Name))), f.Name...)
		sealed := byte(0)
		if f.Sealed {
			sealed = 1
		}
		b = binary.AppendUvarint(append(b, sealed), uint64(f.Size))
		b = binary.AppendUvarint(b, uint64(len(f.Extents)))
		for _, x := range f.Extents {
			b = binary.AppendUvarint(binary.AppendUvarint(b, uint64(x.Start)), uint64(x.Count))
		}
	}
	return string(b)
}

// closed is what stands ahead of a Crc, with it and the noughts behind it.
func closed(head string) string {
	s := head + string(binary.LittleEndian.AppendUint32(nil, crc32.ChecksumIEEE([]byte(head))))
	return s + strings.Repeat("\x00", max(0, 3072-len(s)))
}

func formed(l []inode.File) string { return closed(summed(l)) }

func modelPack(l []inode.File) (string, api.Errno) {
	if !modelRight(l, 0, 4096) {
		return "", api.ErrArg
	}
	if len(summed(l))+4 > 3072 {
		return "", api.ErrLong
	}
	return formed(l), api.OK
}

// guessed is the directory that bytes may be of, if they are of any: whoever asks forms it again to see.
func guessed(s string) []inode.File {
	b := []byte(s)[4:]
	number := func() int {
		v, n := binary.Uvarint(b)
		b = b[max(0, n):]
		return int(v)
	}
	var l []inode.File
	for n := number(); len(l) < min(n, 64); {
		size := min(max(0, number()), len(b))
		f := inode.File{Name: string(b[:size])}
		b = b[size:]
		f.Sealed = number() != 0
		f.Size = number()
		for m := number(); len(f.Extents) < min(m, 16); {
			x := api.Extent{Start: number()}
			x.Count = number()
			f.Extents = append(f.Extents, x)
		}
		l = append(l, f)
	}
	return l
}

func modelUnpack(s string) ([]inode.File, api.Errno) {
	if len(s) != 3072 {
		return nil, api.ErrForm
	}
	l := guessed(s)
	want, e := modelPack(l)
	at := len(summed(l))
	if e != api.OK || s[:at] != want[:at] || s[at+4:] != want[at+4:] {
		return nil, api.ErrForm
	}
	if s != want {
		return nil, api.ErrSum
	}
	return l, api.OK
}

// Directories by chance.

func chosenName(r *rand.Rand) string {
	letters := "abcdefghijklmnopqrstuvwxyz0123456789.-_"
	if r.Intn(2) == 0 {
		letters = "a-" // so that one begins with the other
	}
	b := make([]byte, 1+r.Intn(24))
	for i := range b {
		b[i] = letters[r.Intn(len(letters))]
	}
	return string(b)
}

// chosenExtents are extents of first to blocks - 1 without a block in common, in any order.
func chosenExtents(r *rand.Rand, first, blocks int) []api.Extent {
	gap, count := r.Intn(5), 1+r.Intn(1+r.Intn(12))
	var l []api.Extent
	for at := first + r.Intn(gap+1); at < blocks; at += r.Intn(gap + 1) {
		x := api.Extent{Start: at, Count: min(1+r.Intn(count), blocks-at)}
		l = append(l, x)
		at += x.Count
	}
	r.Shuffle(len(l), func(i, j int) { l[i], l[j] = l[j], l[i] })
	return l
}

// chosen is a directory that is right for first to blocks - 1.
func chosen(r *rand.Rand, first, blocks int) []inode.File {
	names := make([]string, r.Intn(65))
	for i := range names {
		names[i] = chosenName(r)
	}
	slices.Sort(names)
	free := chosenExtents(r, first, blocks)
	most := []int{1 + r.Intn(17), 17}[r.Intn(2)]
	var l []inode.File
	for _, name := range slices.Compact(names) {
		n := min(r.Intn(most), len(free))
		if r.Intn(30) < most {
			n = min(most-1, len(free))
		}
		f := inode.File{Name: name, Sealed: r.Intn(2) == 0, Extents: slices.Clone(free[:n])}
		free = free[n:]
		for _, x := range f.Extents {
			f.Size += 256 * x.Count
		}
		if n > 0 {
			f.Size -= r.Intn(256)
		}
		l = append(l, f)
	}
	return l
}

// nudged is a number near to another, or far from it.
func nudged(r *rand.Rand, n int) int {
	l := []int{n - 1, n + 1, n - 1, n + 1, -n, 0, 1, 255, 256, 257, 4095, 4096, 1<<31 - 1, 1 << 31, 1<<63 - 1, -1 << 63, n - 256, n + 256}
	return l[r.Intn(len(l))]
}

// bent is a directory with one thing of it another one.
func bent(r *rand.Rand, l []inode.File) []inode.File {
	l = clone(l)
	if len(l) == 0 {
		return []inode.File{{Name: chosenName(r), Size: r.Intn(2)}}
	}
	f := &l[r.Intn(len(l))]
	switch r.Intn(6) {
	case 0:
		f.Size = nudged(r, f.Size)
	case 1:
		f.Name = []string{"", f.Name + "a", f.Name[min(1, len(f.Name)):], "A", l[0].Name, chosenName(r)}[r.Intn(6)]
	case 2:
		i, j := r.Intn(len(l)), r.Intn(len(l))
		l[i].Name, l[j].Name = l[j].Name, l[i].Name
	case 3:
		f.Extents = append(f.Extents, api.Extent{Start: r.Intn(4096), Count: r.Intn(3)})
		f.Size += 256 * f.Extents[len(f.Extents)-1].Count
	default:
		if len(f.Extents) > 0 {
			bend(r, f)
		}
	}
	return l
}

// bend makes one extent of a file another one.
func bend(r *rand.Rand, f *inode.File) {
	x := &f.Extents[r.Intn(len(f.Extents))]
	was := x.Count
	switch r.Intn(3) {
	case 0:
		x.Start = nudged(r, x.Start)
	case 1:
		x.Count = nudged(r, x.Count)
	default:
		x.Count++
		f.Size += 256 * (x.Count - was)
	}
}

func clone(l []inode.File) []inode.File {
	l = slices.Clone(l)
	for i := range l {
		l[i].Extents = slices.Clone(l[i].Extents)
	}
	return l
}

// same holds two directories against each other; a list of nothing may be nil or empty.
func same(a, b []inode.File) bool {
	return slices.EqualFunc(a, b, func(f, g inode.File) bool {
		return f.Name == g.Name && f.Sealed == g.Sealed && f.Size == g.Size && slices.Equal(f.Extents, g.Extents)
	})
}

// Rows by chance.

func TestRowsOfRight(t *testing.T) {
	r := rand.New(rand.NewSource(1))
	right := 0
	for range 3000 {
		first, blocks := r.Intn(200), 100+r.Intn(400)
		l := chosen(r, first, blocks)
		if !inode.Right(l, first, blocks) {
			t.Fatalf("Right(%v, %d, %d): false", l, first, blocks)
		}
		for range 6 {
			l = bent(r, l)
			was := clone(l)
			first, blocks := first+r.Intn(3)-1, blocks+r.Intn(3)-1
			want := modelRight(l, first, blocks)
			if inode.Right(l, first, blocks) != want {
				t.Fatalf("Right(%v, %d, %d): %v", l, first, blocks, !want)
			}
			if !reflect.DeepEqual(l, was) {
				t.Fatal("Right changed its argument")
			}
			if want {
				right++
			} else {
				l = chosen(r, first, blocks)
			}
		}
	}
	if right < 1000 {
		t.Errorf("only %d that were bent are right", right)
	}
}

func TestRowsOfFind(t *testing.T) {
	r := rand.New(rand.NewSource(2))
	for range 2000 {
		l := chosen(r, 0, 300)
		asked := []string{chosenName(r), "", "~"}
		for _, f := range l {
			asked = append(asked, f.Name, f.Name+"-", f.Name[1:])
		}
		for _, name := range asked {
			i, ok := modelFind(l, name)
			if x, y := inode.Find(l, name); x != i || y != ok {
				t.Fatalf("Find(%v, %q): %d, %v; want %d, %v", l, name, x, y, i, ok)
			}
		}
	}
}

func TestRowsOfPack(t *testing.T) {
	r := rand.New(rand.NewSource(3))
	seen := map[api.Errno]int{}
	for range 3000 {
		l := chosen(r, 0, []int{1 + r.Intn(4096), 4096}[r.Intn(2)])
		if r.Intn(4) == 0 {
			l = bent(r, l)
		}
		was := clone(l)
		want, we := modelPack(l)
		s, e := inode.Pack(l)
		if s != want || e != we {
			t.Fatalf("Pack(%v): %q, %v; want %q, %v", l, s, e, want, we)
		}
		if !reflect.DeepEqual(l, was) {
			t.Fatal("Pack changed its argument")
		}
		if m, ue := inode.Unpack(s); e == api.OK && (ue != api.OK || !same(m, l)) {
			t.Fatalf("Unpack of what was packed: %v, %v; want %v", m, ue, l)
		}
		seen[e]++
	}
	if seen[api.OK] < 500 || seen[api.ErrArg] < 50 || seen[api.ErrLong] < 50 {
		t.Errorf("how often each was answered: %v", seen)
	}
}

// spoilt are the bytes of a directory, or near to those of one.
func spoilt(r *rand.Rand) string {
	l := chosen(r, 0, 1+r.Intn(2000))
	for r.Intn(3) == 0 {
		l = bent(r, l)
	}
	head := []byte(summed(l))
	if r.Intn(2) == 0 {
		head[r.Intn(len(head))] = byte(nudged(r, r.Intn(256)))
	}
	b := []byte(closed(string(head)))
	if r.Intn(3) == 0 {
		b[min(len(head)+r.Intn(8), len(b)-1)] ^= 1 << r.Intn(8)
	}
	return string(b)
}

func TestRowsOfUnpack(t *testing.T) {
	r := rand.New(rand.NewSource(4))
	seen := map[api.Errno]int{}
	for range 6000 {
		s := spoilt(r)
		want, we := modelUnpack(s)
		l, e := inode.Unpack(s)
		if e != we || !same(l, want) {
			t.Fatalf("Unpack(%q): %v, %v; want %v, %v", s, l, e, want, we)
		}
		if again, pe := inode.Pack(l); e == api.OK && (pe != api.OK || again != s) {
			t.Fatalf("Pack of what was unpacked: %q, %v; want %q", again, pe, s)
		}
		seen[e]++
	}
	if seen[api.OK] < 500 || seen[api.ErrForm] < 500 || seen[api.ErrSum] < 200 {
		t.Errorf("how often each was answered: %v", seen)
	}
}

// Texts of 3072 bytes of which most are no directory: nothing may panic.
func TestUnpackOfAnyBytes(t *testing.T) {
	r := rand.New(rand.NewSource(5))
	for range 3000 {
		b := []byte("CDXI" + strings.Repeat("\x00", 3068))
		few := []byte{0, 1, 2, 'a', 'b', 128, 255, byte(r.Intn(256))}
		for i := 4; i < 5+r.Intn(3068); i++ {
			b[i] = few[r.Intn(len(few))]
		}
		want, we := modelUnpack(string(b))
		if l, e := inode.Unpack(string(b)); e != we || !same(l, want) {
			t.Fatalf("Unpack(%q): %v, %v; want %v, %v", b, l, e, want, we)
		}
	}
}
