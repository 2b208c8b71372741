package store

import (
	"strings"

	"codex/api"
	"codex/bitmap"
	"codex/wire"
)

const (
	labelBlock = 2 + api.LogBlocks // home's first block: the journal's two slots and its log are ahead of it
	labelBegin = "CDXB"
	firstMap   = labelBlock + 1    // the bitmap's first block
	mapBits    = 8 * api.BlockSize // of a block of the bitmap
)

// firstData is the first data block of a device of n blocks.
func firstData(n int) int { return firstMap + (n+mapBits-1)/mapBits }

// label is what tells that a store lies on a device of n blocks.
func label(n int) string {
	text := labelBegin + wire.Fixed(uint32(n))
	return text + strings.Repeat("\x00", api.BlockSize-len(text))
}

// emptyMap is the bitmap of a device of n blocks of which no data block is used.
func emptyMap(n int) string {
	first := firstData(n)
	bits, _ := bitmap.Set(bitmap.Make((first-firstMap)*mapBits), 0, first, true)
	return bits
}

// rightMap tells whether a bitmap is as it may be: of the data blocks alone it may say anything.
func rightMap(bits string, n int) bool {
	first := firstData(n)
	empty, _ := bitmap.Set(bits, first, n-first, false)
	return empty == emptyMap(n)
}

// mapBlocks is a bitmap as blocks.
func mapBlocks(bits string) []api.Write {
	var l []api.Write
	for at := 0; at < len(bits); at += api.BlockSize {
		l = append(l, api.Write{Block: firstMap + len(l), Data: bits[at : at+api.BlockSize]})
	}
	return l
}

// turnedBlocks is those blocks of a bitmap that are others than they were.
func turnedBlocks(was, bits string) []api.Write {
	old := mapBlocks(was)
	var l []api.Write
	for k, w := range mapBlocks(bits) {
		if w != old[k] {
			l = append(l, w)
		}
	}
	return l
}
