package inode

import (
	"strings"

	"codex/api"
	"codex/wire"
)

const (
	begin    = "CDXI"
	dirBytes = api.DirBlocks * api.BlockSize
	maxSize  = 1<<31 - 1 // of a file
)

func Pack(l []File) (string, api.Errno) {
	if !isDirectory(l) {
		return "", api.ErrArg
	}
	s := written(l)
	s += wire.Fixed(wire.Crc(s))
	if len(s) > dirBytes {
		return "", api.ErrLong
	}
	return s + noughts(dirBytes-len(s)), api.OK
}

func Unpack(s string) ([]File, api.Errno) {
	if len(s) != dirBytes || !strings.HasPrefix(s, begin) {
		return nil, api.ErrForm
	}
	r := reader{rest: s[len(begin):]}
	l := r.files()
	summed := s[:len(s)-len(r.rest)]
	sum, rest, ok := wire.ToFixed(r.rest)
	if r.bad || !ok || rest != noughts(len(rest)) || !isDirectory(l) {
		return nil, api.ErrForm
	}
	if sum != wire.Crc(summed) {
		return nil, api.ErrSum
	}
	return l, api.OK
}

// isDirectory tells whether a list is right for all blocks that a device may have.
func isDirectory(l []File) bool { return Right(l, 0, api.MaxBlocks) }

func noughts(n int) string { return strings.Repeat("\x00", n) }

// written is a directory's bytes ahead of its Crc.
func written(l []File) string {
	b := []byte(begin + wire.Var(uint64(len(l))))
	for _, f := range l {
		sealed := uint64(0)
		if f.Sealed {
			sealed = 1
		}
		b = append(b, wire.Text(f.Name)...)
		b = append(b, wire.Var(sealed, uint64(f.Size), uint64(len(f.Extents)))...)
		for _, x := range f.Extents {
			b = append(b, wire.Var(uint64(x.Start), uint64(x.Count))...)
		}
	}
	return string(b)
}

// reader takes numbers and texts off what is still to be read. Behind one that may not be, it is bad, and tells noughts only.
type reader struct {
	rest string
	bad  bool
}

// number takes a number off, which is at most as great as most.
func (r *reader) number(most uint64) int {
	v, rest, ok := wire.ToVar(r.rest)
	if r.bad || !ok || v > most {
		r.bad = true
		return 0
	}
	r.rest = rest
	return int(v)
}

// text takes a text off; it is a copy, so that it does not keep the bytes around it.
func (r *reader) text() string {
	s, rest, ok := wire.ToText(r.rest)
	if r.bad || !ok {
		r.bad = true
		return ""
	}
	r.rest = rest
	return strings.Clone(s)
}

func (r *reader) files() []File {
	var l []File
	for range r.number(api.MaxFiles) {
		l = append(l, r.file())
	}
	return l
}

func (r *reader) file() File {
	f := File{Name: r.text(), Sealed: r.number(1) == 1, Size: r.number(maxSize)}
	for range r.number(api.MaxExtents) {
		f.Extents = append(f.Extents, api.Extent{Start: r.number(api.MaxBlocks), Count: r.number(api.MaxBlocks)})
	}
	return f
}
