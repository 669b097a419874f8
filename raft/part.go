package raft

import (
	"bytes"

	"echelon/api"
	"echelon/members"
	"echelon/mould"
	"echelon/sum"
)

// leastConf and mostConf are how many bytes a configuration has: that of voter 0 alone; and one of nine servers of great numbers, some of them learners.
const (
	leastConf = 4
	mostConf  = 40
)

// part is a leader's: a piece of its snapshot.
type part struct {
	head
	piece api.Piece
}

func (m part) value() (byte, api.Val) {
	p := m.piece
	v := row(m.term, m.from, p.Index, p.Term, int(p.Sum), p.Total, p.At)
	v.L = append(v.L, api.Val{B: p.B})
	return kindPart, v
}

func partOf(v api.Val) (message, bool) {
	ns, ok := numbers(v, topIndex, api.MaxID, topIndex, topIndex, 1<<32, maxSnap+1, maxSnap)
	if !ok {
		return nil, false
	}
	mark := api.Mark{Index: ns[2], Term: ns[3]}
	m := part{head{ns[0], ns[1]}, api.Piece{Mark: mark, Sum: uint32(ns[4]), Total: ns[5], At: ns[6], B: v.L[7].B}}
	t := trail{head: m.head, at: mark}
	return m, mark.Index > 0 && isMark(mark) && t.goesOn() && isCut(m.piece) && hasSum(m.piece) && m.isOfSnap()
}

// isCut: is it a piece of a cut, by some size? The last one has what the others left.
func isCut(p api.Piece) bool {
	size, left := len(p.B), p.Total-p.At
	switch {
	case size < 1 || size > mostOption || size > left:
		return false
	case size < left:
		return p.At%size == 0
	}
	return p.At == 0 || divides(p.At, size, mostOption)
}

// divides: does a number from least to most divide n?
func divides(n, least, most int) bool {
	inside := func(d int) bool { return d >= least && d <= most }
	for d := 1; d*d <= n; d++ {
		if n%d == 0 && (inside(d) || inside(n/d)) {
			return true
		}
	}
	return false
}

// hasSum: is its Sum that of all bytes, as far as it shows them? They begin with the sum of those behind it, which goes into the sum of all.
func hasSum(p api.Piece) bool {
	if p.At > 0 || len(p.B) < sumSize {
		return true
	}
	first, rest := p.B[:sumSize], p.B[sumSize:]
	if len(p.B) == p.Total && !sum.Fits(sumOf(first), rest) {
		return false
	}
	all, _ := sum.Join(sum.Of(first), sumOf(first), p.Total-sumSize)
	return all == p.Sum
}

// isOfSnap: is it a piece of a snapshot's bytes (layer 6), with a configuration of some size?
func (m part) isOfSnap() bool {
	p := m.piece
	for size := leastConf; size <= mostConf; size++ {
		ahead := forms(p.Index, p.Term, size)
		conf := sumSize + len(ahead)
		behind, ok := formOfRest(p.Total - conf - size)
		if ok && shows(p, sumSize, ahead) && shows(p, conf+size, behind) && m.tells(conf, size) {
			return true
		}
	}
	return false
}

// tells: is what stands there a configuration, if it is shown whole? Behind an entry of its own Term a leader is a voter.
func (m part) tells(at, size int) bool {
	p := m.piece
	if p.At > at || p.At+len(p.B) < at+size {
		return true
	}
	conf, e := members.Parse(p.B[at-p.At : at-p.At+size])
	return e == api.OK && (p.Term < m.term || members.Votes(conf, m.from))
}

// shows: does a piece show these bytes at that place, as far as it has that?
func shows(p api.Piece, at int, b []byte) bool {
	from, to := max(p.At, at), min(p.At+len(p.B), at+len(b))
	return from >= to || bytes.Equal(p.B[from-p.At:to-p.At], b[from-at:to-at])
}

// forms are numbers' forms (layer 1), one behind the other.
func forms(ns ...int) []byte {
	b, _ := mould.Put("n", row(ns...).L...)
	return b
}

// formOfRest is the form of how many bytes come behind that form itself, if they are so many together: may they be?
func formOfRest(all int) ([]byte, bool) {
	for size := all - 1; size >= max(0, all-9); size-- {
		if b := forms(size); len(b)+size == all {
			return b, true
		}
	}
	return nil, false
}
