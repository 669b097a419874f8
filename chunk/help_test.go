package chunk_test

import (
	"bytes"
	"fmt"
	"hash/crc32"
	"math"
	"testing"

	"echelon/api"
	"echelon/chunk"
)

// top is what Indexes and Terms stay below.
const top = 10000000000

// numbers are what an Index and a Term may be, and may not.
func numbers() []int {
	return []int{math.MinInt, -top, -1, 0, 1, 2, top - 1, top, top + 1, math.MaxInt}
}

// may: may a snapshot have it as its Index, or its Term?
func may(n int) bool { return n >= 1 && n < top }

func mark(index, term int) api.Mark { return api.Mark{Index: index, Term: term} }

// sumOf is a sum, found without the layer that is called.
func sumOf(b string) uint32 {
	return crc32.Checksum([]byte(b), crc32.MakeTable(crc32.Castagnoli))
}

// part is the piece of all these bytes that has those from one place up to another.
func part(m api.Mark, all string, from, to int) api.Piece {
	return api.Piece{Mark: m, Sum: sumOf(all), Total: len(all), At: from, B: []byte(all[from:to])}
}

// text is bytes of which no two neighbours are the same.
func text(n int) string {
	b := make([]byte, n)
	for i := range b {
		b[i] = byte('a' + i*7%25)
	}
	return string(b)
}

// same: are both one piece?
func same(a, b api.Piece) bool {
	return a.Mark == b.Mark && a.Sum == b.Sum && a.Total == b.Total && a.At == b.At && bytes.Equal(a.B, b.B)
}

// cut is bytes cut without an error.
func cut(t *testing.T, m api.Mark, all string, size int) []api.Piece {
	t.Helper()
	ps, e := chunk.Cut(m, []byte(all), size)
	if e != api.OK {
		t.Fatalf("P7.1: Cut(%v, %d bytes, %d): %d", m, len(all), size, e)
	}
	return ps
}

// takes holds what a heap answers to pieces against what it is to answer.
func takes(t *testing.T, what string, h *chunk.Heap, all bool, want api.Errno, ps ...api.Piece) {
	t.Helper()
	if got, e := h.Take(ps...); got != all || e != want {
		t.Fatalf("%s: Take: %v, %d, not %v, %d", what, got, e, all, want)
	}
}

// tell is all that a heap tells.
func tell(h *chunk.Heap) string {
	b, ok := h.Whole()
	return fmt.Sprintf("%v, missing %d, whole %q %v", h.Mark(), h.Missing(), b, ok)
}

// empty holds a heap to gather nothing.
func empty(t *testing.T, what string, h *chunk.Heap) {
	t.Helper()
	if got := tell(h); got != `{0 0}, missing 0, whole "" false` {
		t.Fatalf("%s: the heap has %s, not nothing", what, got)
	}
}

// lacks holds a heap to gather a Mark, and not to have the byte at a place.
func lacks(t *testing.T, what string, h *chunk.Heap, m api.Mark, missing int) {
	t.Helper()
	if got, want := tell(h), fmt.Sprintf(`%v, missing %d, whole "" false`, m, missing); got != want {
		t.Fatalf("%s: the heap has %s, not %s", what, got, want)
	}
}

// whole holds a heap to have all bytes.
func whole(t *testing.T, what string, h *chunk.Heap, m api.Mark, all string) {
	t.Helper()
	if got, want := tell(h), fmt.Sprintf(`%v, missing %d, whole %q true`, m, len(all), all); got != want {
		t.Fatalf("%s: the heap has %s, not %s", what, got, want)
	}
}
