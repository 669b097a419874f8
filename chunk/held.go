package chunk

import (
	"iter"
	"math/bits"
)

// blockSize is how many bytes a block has: as many as there are bits to say which of them are there.
const blockSize = 64

// held is bytes of which some are there, in blocks: a piece of a single byte may tell a Total that there is no room for.
type held struct {
	blocks map[int]*block // by their places, divided by blockSize
	first  int            // the place of the first byte that isn't there
}

// block is bytes side by side: those are there whose bits are set, the lowest bit for the first.
type block struct {
	there uint64
	b     [blockSize]byte
}

// clashes: is one of these bytes there, and another one?
func (h *held) clashes(at int, b []byte) bool {
	for place, part := range parts(at, b) {
		if k := h.blocks[place/blockSize]; k != nil && k.clashes(place%blockSize, part) {
			return true
		}
	}
	return false
}

// lay lays bytes, of which none clashes.
func (h *held) lay(at int, b []byte) {
	if h.blocks == nil {
		h.blocks = map[int]*block{}
	}
	for place, part := range parts(at, b) {
		k := h.blocks[place/blockSize]
		if k == nil {
			k = &block{}
			h.blocks[place/blockSize] = k
		}
		k.lay(place%blockSize, part)
	}
	h.advance()
}

// advance leads first on, over the bytes that came to be there.
func (h *held) advance() {
	for {
		k := h.blocks[h.first/blockSize]
		if k == nil {
			return
		}
		n := bits.TrailingZeros64(^(k.there >> (h.first % blockSize)))
		if n == 0 {
			return
		}
		h.first += n
	}
}

// front is the bytes ahead of the first one that isn't there.
func (h *held) front() []byte {
	out := make([]byte, h.first)
	for at := 0; at < len(out); at += blockSize {
		copy(out[at:], h.blocks[at/blockSize].b[:])
	}
	return out
}

// clashes: is one of these bytes there, and another one?
func (k *block) clashes(from int, b []byte) bool {
	for i, c := range b {
		if k.there>>(from+i)&1 == 1 && k.b[from+i] != c {
			return true
		}
	}
	return false
}

// lay lays bytes within the block.
func (k *block) lay(from int, b []byte) {
	copy(k.b[from:], b)
	k.there |= (uint64(1)<<len(b) - 1) << from
}

// parts are bytes, cut where blocks end, each part with its place.
func parts(at int, b []byte) iter.Seq2[int, []byte] {
	return func(yield func(int, []byte) bool) {
		for done := 0; done < len(b); {
			place := at + done
			end := min(done+blockSize-place%blockSize, len(b))
			if !yield(place, b[done:end]) {
				return
			}
			done = end
		}
	}
}
