package raft

import (
	"echelon/api"
	"echelon/mould"
	"echelon/sum"
)

// message is what a post says.
type message interface {
	value() (kind byte, v api.Val)
	hear(c *Core, draw uint64)
}

// The kinds of messages.
const (
	kindAsk   = 1
	kindVote  = 2
	kindFeed  = 3
	kindReply = 4
	kindPart  = 5
)

// The bytes of a post are four of the sum of those behind them, the greatest first; one of the message's kind; and the form of its value.
const (
	sumSize  = 4
	headSize = sumSize + 1
)

// shapeOf is a kind's shape.
func shapeOf(kind byte) string {
	switch kind {
	case kindAsk:
		return "[nnnn]"
	case kindVote:
		return "[nnn]"
	case kindFeed:
		return "[nnnnnn*[nnb]]"
	case kindReply:
		return "[nnnnnnn]"
	case kindPart:
		return "[nnnnnnnb]"
	}
	return ""
}

// bytesOf is a message as bytes.
func bytesOf(m message) []byte {
	kind, v := m.value()
	form, _ := mould.Put(shapeOf(kind), v)
	s := sum.Of([]byte{kind}, form)
	b := []byte{byte(s >> 24), byte(s >> 16), byte(s >> 8), byte(s), kind}
	return append(b, form...)
}

// parse is the message of a post's bytes, if a core may have made them.
func parse(b []byte) (message, bool) {
	if len(b) < headSize || !sum.Fits(sumOf(b), b[sumSize:]) {
		return nil, false
	}
	kind := b[sumSize]
	v, e := mould.Take(shapeOf(kind), b[headSize:])
	if e != api.OK {
		return nil, false
	}
	switch kind {
	case kindAsk:
		return askOf(v)
	case kindVote:
		return voteOf(v)
	case kindFeed:
		return feedOf(v)
	case kindReply:
		return replyOf(v)
	}
	return partOf(v)
}

// sumOf is the sum that a post's bytes begin with.
func sumOf(b []byte) uint32 {
	return uint32(b[0])<<24 | uint32(b[1])<<16 | uint32(b[2])<<8 | uint32(b[3])
}

// row is a row of numbers.
func row(ns ...int) api.Val {
	var v api.Val
	for _, n := range ns {
		v.L = append(v.L, api.Val{N: uint64(n)})
	}
	return v
}

// What the numbers of a message stay below: Indexes and Terms; counts.
const (
	topIndex = api.MaxIndex
	topCount = 1 << 40
)

// numbers are the first ones of a row, each of which must be below its top.
func numbers(v api.Val, tops ...uint64) ([]int, bool) {
	var ns []int
	for i, top := range tops {
		if v.L[i].N >= top {
			return nil, false
		}
		ns = append(ns, int(v.L[i].N))
	}
	return ns, true
}

// isMark: is it a place in a log? At Index 0, and only there, the Term is 0.
func isMark(m api.Mark) bool {
	return (m.Index == 0) == (m.Term == 0)
}

// digit is a yes or no as a number.
func digit(yes bool) int {
	if yes {
		return 1
	}
	return 0
}

// head is what all messages have: their Term, and who says it.
type head struct {
	term, from int
}

// head is that of what the core says.
func (c *Core) head() head {
	return head{c.Hard.Term, c.id}
}
