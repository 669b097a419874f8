package chunk

import (
	"echelon/api"
)

// goal is what pieces that go together tell alike.
type goal struct {
	api.Mark
	Sum   uint32
	Total int
}

// goalOf is what a piece tells of all the bytes.
func goalOf(p api.Piece) goal {
	return goal{p.Mark, p.Sum, p.Total}
}

// isRight: is a piece right, of so many bytes at most?
func isRight(p api.Piece, most int) bool {
	if !isMark(p.Mark) || p.Total < 0 || p.Total > most {
		return false
	}
	if (len(p.B) == 0) != (p.Total == 0) {
		return false
	}
	// A piece's end may be above the ints.
	return p.At >= 0 && p.At <= p.Total-len(p.B)
}

// isMark: may a snapshot stand there?
func isMark(m api.Mark) bool {
	return m.Index >= 1 && m.Index < api.MaxIndex && m.Term >= 1 && m.Term < api.MaxIndex
}
