// Package block: a raw device: layer 1: see shared/doc/01-block.md.
package block

import (
	"slices"
	"strings"

	"codex/api"
)

// Device is blocks, and writes that are pending.
type Device struct {
	disk    []string // what lies on each block
	pending []api.Write
	fused   bool // beside fuse, so that a fuse of 0 is not taken for none
	fuse    int  // turns that are left
	dead    bool
}

func New(n int) (*Device, api.Errno) {
	if n < 1 || n > api.MaxBlocks {
		return nil, api.ErrRange
	}
	noughts := strings.Repeat("\x00", api.BlockSize)
	return &Device{disk: slices.Repeat([]string{noughts}, n)}, api.OK
}

func (d *Device) Blocks() int { return len(d.disk) }

func (d *Device) Read(i int) (string, api.Errno) {
	if e := d.check(i); e != api.OK {
		return "", e
	}
	for k := range len(d.pending) {
		if w := d.pending[len(d.pending)-1-k]; w.Block == i {
			return w.Data, api.OK
		}
	}
	return d.disk[i], api.OK
}

func (d *Device) Write(i int, data string) api.Errno {
	if e := d.check(i); e != api.OK {
		return e
	}
	if len(data) != api.BlockSize {
		return api.ErrSize
	}
	if !d.turn() {
		return api.ErrDead
	}
	d.pending = append(d.pending, api.Write{Block: i, Data: data})
	return api.OK
}

func (d *Device) Flush() api.Errno {
	if d.dead || !d.turn() {
		return api.ErrDead
	}
	d.settle(func(int) int { return api.BlockSize })
	return api.OK
}

// Fuse lets the power go behind so many turns more.
func (d *Device) Fuse(n int) {
	d.fused, d.fuse = n >= 0, max(n, 0)
}

func (d *Device) Dead() bool { return d.dead }

func (d *Device) Pending() []api.Write { return slices.Clone(d.pending) }

// Crash leaves what lies on the blocks, and what is kept of what is pending.
func (d *Device) Crash(keep []bool, torn, cut int) {
	cut = min(max(cut, 0), api.BlockSize)
	d.settle(func(k int) int {
		switch {
		case k < len(keep) && keep[k]:
			return api.BlockSize
		case k == torn:
			return cut
		}
		return 0
	})
	d.Fuse(-1)
	d.dead = false
}

// Disk is what lies on the blocks.
func (d *Device) Disk() []string { return slices.Clone(d.disk) }

// check tells why block i cannot be used.
func (d *Device) check(i int) api.Errno {
	if d.dead {
		return api.ErrDead
	}
	if i < 0 || i >= len(d.disk) {
		return api.ErrRange
	}
	return api.OK
}

// turn tells whether the power holds for one turn more.
func (d *Device) turn() bool {
	if !d.fused {
		return true
	}
	if d.fuse == 0 {
		d.dead = true
		return false
	}
	d.fuse--
	return true
}

// settle lays of the k-th pending write as many bytes on its block as left says; then none is pending.
func (d *Device) settle(left func(k int) int) {
	for k := range len(d.pending) {
		w := d.pending[k]
		n := left(k)
		d.disk[w.Block] = w.Data[:n] + d.disk[w.Block][n:]
	}
	d.pending = nil
}
