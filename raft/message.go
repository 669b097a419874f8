package raft

import (
	"echelon/api"
	"echelon/members"
)

// ask is a candidate's: it tells the last entry that it has.
type ask struct {
	head
	last api.Mark
}

func (m ask) value() (byte, api.Val) {
	return kindAsk, row(m.term, m.from, m.last.Index, m.last.Term)
}

func askOf(v api.Val) (message, bool) {
	ns, ok := numbers(v, topIndex, api.MaxID, topIndex, topIndex)
	if !ok {
		return nil, false
	}
	m := ask{head{ns[0], ns[1]}, api.Mark{Index: ns[2], Term: ns[3]}}
	return m, m.last.Term < m.term && isMark(m.last)
}

// vote is what one who was asked says.
type vote struct {
	head
	yes bool
}

func (m vote) value() (byte, api.Val) {
	return kindVote, row(m.term, m.from, digit(m.yes))
}

func voteOf(v api.Val) (message, bool) {
	ns, ok := numbers(v, topIndex, api.MaxID, 2)
	if !ok {
		return nil, false
	}
	m := vote{head{ns[0], ns[1]}, ns[2] == 1}
	return m, m.term > 0
}

// feed is a leader's: entries, and what stands ahead of them; its commit; and how often it has asked who hears it.
type feed struct {
	head
	prev          api.Mark
	commit, round int
	entries       []api.Entry
}

func (m feed) value() (byte, api.Val) {
	v := row(m.term, m.from, m.prev.Index, m.prev.Term, m.commit, m.round)
	var list api.Val
	for _, e := range m.entries {
		r := row(e.Term, e.Kind)
		r.L = append(r.L, api.Val{B: e.Body})
		list.L = append(list.L, r)
	}
	v.L = append(v.L, list)
	return kindFeed, v
}

func feedOf(v api.Val) (message, bool) {
	ns, ok := numbers(v, topIndex, api.MaxID, topIndex, topIndex, topIndex, topCount)
	if !ok {
		return nil, false
	}
	m := feed{head: head{ns[0], ns[1]}, prev: api.Mark{Index: ns[2], Term: ns[3]}, commit: ns[4], round: ns[5]}
	if m.term < 1 || !isMark(m.prev) {
		return nil, false
	}
	at := m.prev
	for _, r := range v.L[6].L {
		ns, ok := numbers(r, topIndex, api.KindConf+1)
		if !ok {
			return nil, false
		}
		e := api.Entry{Index: at.Index + 1, Term: ns[0], Kind: ns[1], Body: r.L[2].B}
		if e.Term < max(at.Term, 1) || e.Index >= topIndex || !isBody(e.Kind, e.Body) {
			return nil, false
		}
		m.entries = append(m.entries, e)
		at = api.Mark{Index: e.Index, Term: e.Term}
	}
	return m, at.Term <= m.term
}

// isBody: may an entry of this Kind have this Body?
func isBody(kind int, b []byte) bool {
	switch kind {
	case api.KindNone:
		return len(b) == 0
	case api.KindConf:
		_, e := members.Parse(b)
		return e == api.OK
	}
	return len(b) <= api.MaxBody
}

// reply is what comes of a feed: up to where the two logs are the same; or that they aren't at what stood ahead of its entries. Beside it, what else the leader goes by.
type reply struct {
	head
	yes           bool
	index         int
	commit, round int
	place         int // of the leader's snapshot, how much it has from its first byte on
}

func (m reply) value() (byte, api.Val) {
	return kindReply, row(m.term, m.from, digit(m.yes), m.index, m.commit, m.round, m.place)
}

func replyOf(v api.Val) (message, bool) {
	ns, ok := numbers(v, topIndex, api.MaxID, 2, topIndex, topIndex, topCount, maxSnap)
	if !ok {
		return nil, false
	}
	m := reply{head{ns[0], ns[1]}, ns[2] == 1, ns[3], ns[4], ns[5], ns[6]}
	return m, m.term > 0
}

// part is a leader's: a piece of its snapshot.
type part struct {
	head
	piece api.Piece
}

func (m part) value() (byte, api.Val) {
	p := m.piece
	v := row(m.term, m.from, p.Index, p.Term, int(p.Sum), p.Total, p.At)
	v.L = append(v.L, api.Val{B: p.B})
	return kindPart, v
}

func partOf(v api.Val) (message, bool) {
	ns, ok := numbers(v, topIndex, api.MaxID, topIndex, topIndex, 1<<32, maxSnap+1, maxSnap)
	if !ok {
		return nil, false
	}
	mark := api.Mark{Index: ns[2], Term: ns[3]}
	m := part{head{ns[0], ns[1]}, api.Piece{Mark: mark, Sum: uint32(ns[4]), Total: ns[5], At: ns[6], B: v.L[7].B}}
	size := len(m.piece.B)
	return m, mark.Index > 0 && isMark(mark) && mark.Term <= m.term && size > 0 && size <= m.piece.Total-m.piece.At
}
