package store

import (
	"slices"

	"codex/api"
	"codex/journal"
)

// steady is a journal that tells its blocks as they were committed, also where its device, the power gone and back, holds them otherwise.
type steady struct {
	*journal.Journal
	sure []api.Write // told from here, as the device may come to hold them otherwise: what was committed last is not flushed at home
	owed []api.Write // what the device, or a frame of its log, may hold otherwise now: of a Commit that erred, the blocks as they were
}

// Read is what the cache asks.
func (h *steady) Read(i int) (string, api.Errno) {
	for _, w := range h.sure {
		if w.Block == i {
			return w.Data, api.OK
		}
	}
	return h.Journal.Read(i)
}

// Commit does some writes, whole; where it errs, their blocks are told as they were.
func (h *steady) Commit(l ...api.Write) api.Errno {
	if e := h.mend(); e != api.OK {
		return e
	}
	was := h.asTold(l)
	if e := h.Journal.Commit(l...); e != api.OK {
		h.sure, h.owed = slices.Concat(h.sure, was), was
		return e
	}
	h.sure = l
	return api.OK
}

// mend makes the device hold what is told, if the power was gone.
func (h *steady) mend() api.Errno {
	if h.sound() {
		return api.OK
	}
	if len(h.owed) == 0 {
		h.owed = h.sure
	}
	h.sure = h.asTold(blocksFrom(h.Home(), h.Blocks())) // while the log is done again, older data lie at home
	j, e := journal.Open(h.Device)
	if e != api.OK {
		return e
	}
	if e := j.Commit(h.owed...); e != api.OK {
		return e
	}
	h.Journal, h.sure, h.owed = j, h.owed, nil
	return api.OK
}

// sound tells whether the device holds what is told.
func (h *steady) sound() bool {
	for _, w := range h.sure {
		if data, e := h.Journal.Read(w.Block); e != api.OK || data != w.Data {
			return false
		}
	}
	return len(h.owed) == 0
}

// asTold is the blocks of some writes, with the data that are told of them, while the power is there.
func (h *steady) asTold(l []api.Write) []api.Write {
	told := slices.Clone(l)
	for k, w := range l {
		told[k].Data, _ = h.Read(w.Block)
	}
	return told
}

// blocksFrom is the blocks from one on, up to n.
func blocksFrom(first, n int) []api.Write {
	var l []api.Write
	for i := first; i < n; i++ {
		l = append(l, api.Write{Block: i})
	}
	return l
}
