package afile

import (
	"cmp"
	"slices"
	"strings"

	"codex/api"
	"codex/inode"
	"codex/store"
)

// change is what a call makes of the files: a method of it is all that is done in the call's transaction.
type change struct {
	store *store.Store
	files []inode.File // as they are to be
	name  string       // of the file that the call is about
	to    string       // what it is to be called
	data  string       // what it takes
}

// transact does something in one transaction: whole, or not at all.
func transact(s *store.Store, do func() api.Errno) api.Errno {
	if e := s.Begin(); e != api.OK {
		return e
	}
	defer s.Abort() // behind a Commit there is nothing left that it could undo
	if e := do(); e != api.OK {
		return e
	}
	return s.Commit()
}

// found lays down a directory in a new store.
func (c *change) found() api.Errno {
	start, e := c.store.Alloc(api.DirBlocks)
	if e != api.OK {
		return e
	}
	bytes, e := inode.Pack(c.files)
	if e != api.OK {
		return e
	}
	return c.write(start, bytes)
}

func (c *change) create() api.Errno {
	c.put(inode.File{Name: c.name})
	return c.lay()
}

func (c *change) seal() api.Errno {
	file := c.take(c.name)
	file.Sealed = true
	c.put(file)
	return c.lay()
}

func (c *change) remove() api.Errno {
	if e := c.release(c.take(c.name)); e != api.OK {
		return e
	}
	return c.lay()
}

func (c *change) rename() api.Errno {
	if e := c.release(c.take(c.to)); e != api.OK {
		return e
	}
	file := c.take(c.name)
	file.Name = c.to
	c.put(file)
	return c.lay()
}

func (c *change) grow() api.Errno {
	file := c.take(c.name)
	rest, e := c.fill(file, c.data)
	for e == api.OK && rest != "" {
		rest, e = c.extend(&file, rest)
	}
	if e != api.OK {
		return e
	}
	file.Size += len(c.data)
	c.put(file)
	return c.lay()
}

// take takes a file off the list; of a name that no file has it tells one without blocks.
func (c *change) take(name string) inode.File {
	i, ok := inode.Find(c.files, name)
	if !ok {
		return inode.File{}
	}
	file := c.files[i]
	c.files = slices.Delete(c.files, i, i+1)
	return file
}

// put puts a file, whose name no other has, on the list.
func (c *change) put(file inode.File) {
	i, _ := inode.Find(c.files, file.Name)
	c.files = slices.Insert(c.files, i, file)
}

// lay writes the blocks of the directory that are others than they were.
func (c *change) lay() api.Errno {
	bytes, e := inode.Pack(c.files)
	if e != api.OK {
		return api.ErrFull // too many extents, or bytes
	}
	was, e := directory(c.store)
	if e != api.OK {
		return e
	}
	for i := range api.DirBlocks {
		if data := blockOf(bytes, i); data != blockOf(was, i) {
			if e := c.store.Write(c.store.First()+i, data); e != api.OK {
				return e
			}
		}
	}
	return api.OK
}

// release makes a file's blocks free.
func (c *change) release(file inode.File) api.Errno {
	for _, x := range file.Extents {
		if e := c.store.Release(x.Start, x.Count); e != api.OK {
			return e
		}
	}
	return api.OK
}

// fill lays into a file's last block what it can take of some data, and tells the rest.
func (c *change) fill(file inode.File, data string) (string, api.Errno) {
	full := file.Size % api.BlockSize
	if full == 0 {
		return data, api.OK
	}
	last := endOf(file.Extents[len(file.Extents)-1]) - 1
	was, e := c.store.Read(last)
	if e != api.OK {
		return "", e
	}
	n := min(len(data), api.BlockSize-full)
	return data[n:], c.write(last, was[:full]+data[:n])
}

// extend lays into a new piece what it can take of some data, and tells the rest.
func (c *change) extend(file *inode.File, data string) (string, api.Errno) {
	x, e := c.piece(blocksFor(len(data)))
	if e != api.OK {
		return "", e
	}
	file.Extents = joint(file.Extents, x)
	n := min(len(data), x.Count*api.BlockSize)
	return data[n:], c.write(x.Start, data[:n])
}

// piece allocates n blocks beside one another, or as many as there are at most.
func (c *change) piece(n int) (api.Extent, api.Errno) {
	for ; n > 0; n-- {
		start, e := c.store.Alloc(n)
		if e == api.OK {
			return api.Extent{Start: start, Count: n}, api.OK
		}
		if e != api.ErrFull {
			return api.Extent{}, e
		}
	}
	return api.Extent{}, api.ErrFull
}

// write lays data down from a block's first byte on, and noughts behind them.
func (c *change) write(start int, data string) api.Errno {
	n := blocksFor(len(data))
	data += strings.Repeat("\x00", n*api.BlockSize-len(data))
	for i := range n {
		if e := c.store.Write(start+i, blockOf(data, i)); e != api.OK {
			return e
		}
	}
	return api.OK
}

// directory is the bytes that lie where the directory lies.
func directory(s *store.Store) (string, api.Errno) {
	bytes := ""
	for i := range api.DirBlocks {
		data, e := s.Read(s.First() + i)
		if e != api.OK {
			return "", e
		}
		bytes += data
	}
	return bytes, api.OK
}

// blockOf is the i-th block of some bytes.
func blockOf(bytes string, i int) string {
	return bytes[i*api.BlockSize : (i+1)*api.BlockSize]
}

// blocksFor is how many blocks so many bytes need.
func blocksFor(n int) int { return (n + api.BlockSize - 1) / api.BlockSize }

// blocksOf is a file's blocks, in the order of its bytes.
func blocksOf(file inode.File) []int {
	var l []int
	for _, x := range file.Extents {
		for i := range x.Count {
			l = append(l, x.Start+i)
		}
	}
	return l
}

// endOf is the block behind an extent's last one.
func endOf(x api.Extent) int { return x.Start + x.Count }

// joint is extents with one more behind them; where it begins right behind the last one, that one is longer.
func joint(l []api.Extent, x api.Extent) []api.Extent {
	if last := len(l) - 1; last >= 0 && endOf(l[last]) == x.Start {
		l[last].Count += x.Count
		return l
	}
	return append(l, x)
}

// joined is extents, none with a block of another, as ones that touch no others, rising.
func joined(l []api.Extent) []api.Extent {
	slices.SortFunc(l, func(a, b api.Extent) int { return cmp.Compare(a.Start, b.Start) })
	var whole []api.Extent
	for _, x := range l {
		whole = joint(whole, x)
	}
	return whole
}
