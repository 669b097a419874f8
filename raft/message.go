package raft

import (
	"echelon/api"
)

// ask is a candidate's: it tells the last entry that it has.
type ask struct {
	head
	last api.Mark
}

func (m ask) value() (byte, api.Val) {
	return kindAsk, row(m.term, m.from, m.last.Index, m.last.Term)
}

func askOf(v api.Val) (message, bool) {
	ns, ok := numbers(v, topIndex, api.MaxID, topIndex, topIndex)
	if !ok {
		return nil, false
	}
	m := ask{head{ns[0], ns[1]}, api.Mark{Index: ns[2], Term: ns[3]}}
	return m, m.last.Term < m.term && isMark(m.last)
}

// vote is what one who was asked says.
type vote struct {
	head
	yes bool
}

func (m vote) value() (byte, api.Val) {
	return kindVote, row(m.term, m.from, digit(m.yes))
}

func voteOf(v api.Val) (message, bool) {
	ns, ok := numbers(v, topIndex, api.MaxID, 2)
	if !ok {
		return nil, false
	}
	m := vote{head{ns[0], ns[1]}, ns[2] == 1}
	return m, m.term > 0
}

// reply is what comes of a feed: up to where the two logs are the same; or that they aren't at what stood ahead of its entries. Beside it, what else the leader goes by.
type reply struct {
	head
	yes           bool
	index         int
	commit, round int
	place         int // of the leader's snapshot, how much it has from its first byte on
}

func (m reply) value() (byte, api.Val) {
	return kindReply, row(m.term, m.from, digit(m.yes), m.index, m.commit, m.round, m.place)
}

func replyOf(v api.Val) (message, bool) {
	ns, ok := numbers(v, topIndex, api.MaxID, 2, topIndex, topIndex, topCount, maxSnap)
	if !ok {
		return nil, false
	}
	m := reply{head{ns[0], ns[1]}, ns[2] == 1, ns[3], ns[4], ns[5], ns[6]}
	return m, m.term > 0 && m.isRight()
}

// isRight: may these be beside one another? A yes at Index 0 comes of a feed without entries. A no there is that of a later Term, and tells nothing else. Another no is at what isn't agreed, as that is the same everywhere; it alone tells a place.
func (m reply) isRight() bool {
	switch {
	case m.yes:
		return m.place == 0 && (m.index > 0 || m.round > 0 || m.term > 1)
	case m.index == 0:
		return m.term > 1 && m == reply{head: m.head}
	}
	return m.commit < m.index
}
