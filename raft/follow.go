package raft

import (
	"echelon/api"
	"echelon/shelf"
)

// follows: is this its Term's leader? One of a Term that is over is told so.
func (c *Core) follows(h head, draw uint64) bool {
	if h.term < c.Hard.Term {
		c.say(h.from, reply{head: c.head()})
		return false
	}
	if h.term > c.Hard.Term {
		c.turn(h.term)
	}
	if c.reign != nil {
		return false
	}
	c.poll, c.leads = nil, h.from
	c.clock.Set(draw)
	return true
}

// hear lays a leader's entries where they aren't yet.
func (m feed) hear(c *Core, draw uint64) {
	if !c.follows(m.head, draw) {
		return
	}
	if !c.joins(m.prev) {
		c.refuse(m)
		return
	}
	if es := c.lacks(m.entries); len(es) > 0 {
		c.keep(c.State, es[0].Index, es...)
	}
	last := m.prev.Index + len(m.entries)
	c.agree(min(m.commit, last))
	c.accept(m.from, last, m.round)
}

// joins: has it what stands ahead of entries? What is agreed all leaders have.
func (c *Core) joins(m api.Mark) bool {
	term, ok := c.Log.Term(m.Index)
	return m.Index < c.Mark().Index || ok && term == m.Term
}

// lacks are those of entries that its log doesn't have: from the first one on that is missing or another one. What is agreed is none of these.
func (c *Core) lacks(es []api.Entry) []api.Entry {
	for i, e := range es {
		term, ok := c.Log.Term(e.Index)
		if e.Index > c.commit && (!ok || term != e.Term) {
			return es[i:]
		}
	}
	return nil
}

// agree is that entries up to an Index are agreed.
func (c *Core) agree(index int) {
	c.commit = max(c.commit, index)
}

// accept tells the leader up to where the logs are the same.
func (c *Core) accept(to, index, round int) {
	c.say(to, reply{head: c.head(), yes: true, index: index, commit: c.commit, round: round})
}

// refuse tells the leader that what stood ahead of its entries isn't here.
func (c *Core) refuse(m feed) {
	r := reply{head: c.head(), index: m.prev.Index, commit: c.commit, round: m.round}
	if c.heap.Mark() == m.prev {
		r.place = c.heap.Missing()
	}
	c.say(m.from, r)
}

// hear gathers a piece of a leader's snapshot, which is installed once it is whole.
func (m part) hear(c *Core, draw uint64) {
	if !c.follows(m.head, draw) {
		return
	}
	if m.piece.Index > c.commit {
		all, e := c.heap.Take(m.piece)
		if !all || e != api.OK || !c.install(m.piece.Mark) {
			return
		}
	}
	c.accept(m.from, c.commit, 0)
}

// install puts the snapshot that was gathered in the place of what it stands for, if it is one.
func (c *Core) install(m api.Mark) bool {
	b, _ := c.heap.Whole()
	c.heap.Drop()
	x, e := shelf.Parse(b)
	if e != api.OK || x.Mark != m {
		return false
	}
	c.must(c.Install(x))
	c.book = c.read()
	c.agree(x.Index)
	return true
}
