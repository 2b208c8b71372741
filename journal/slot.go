package journal

import (
	"codex/api"
	"codex/wire"
)

const (
	slotBegin = "CDXS"
	halfSlot  = api.BlockSize / 2
)

// slot says where the log's frames begin.
type slot struct {
	number uint64 // of two slots the one with the greater number counts
	seq    uint64 // of the first frame
	log    int
	place  int // of the first frame, in the log
}

// text is a slot as a block: twice the same, so that one that is torn is seen to be none.
func (s slot) text() string {
	half := slotBegin + wide(s.number) + wide(s.seq) + wire.Fixed(uint32(s.log)) + wire.Fixed(uint32(s.place))
	half += noughts(halfSlot - len(half))
	return half + half
}

// readSlot reads a slot of a device of so many blocks, if it is right.
func readSlot(text string, blocks int) (slot, bool) {
	number, rest := toWide(text[len(slotBegin):])
	seq, rest := toWide(rest)
	log, rest, _ := wire.ToFixed(rest)
	place, _, _ := wire.ToFixed(rest)
	s := slot{number: number, seq: seq, log: int(log), place: int(place)}
	// The place is held against the log as it was read: an int may be too small for it.
	if !fits(s.log, blocks) || place >= log || s.text() != text {
		return slot{}, false
	}
	return s, true
}

// wide writes eight bytes, the lowest first; toWide reads them: the rest.
func wide(v uint64) string { return wire.Fixed(uint32(v)) + wire.Fixed(uint32(v>>32)) }

func toWide(s string) (uint64, string) {
	low, rest, _ := wire.ToFixed(s)
	high, rest, _ := wire.ToFixed(rest)
	return uint64(high)<<32 | uint64(low), rest
}
