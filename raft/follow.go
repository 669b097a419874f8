package raft

import (
	"echelon/api"
	"echelon/shelf"
)

// follows: is this its Term's leader? One of a Term that is over is told so.
func (c *Core) follows(h head, draw uint64) bool {
	if h.term < c.Hard.Term {
		c.say(h.from, reply{head: c.head()})
		return false
	}
	if h.term > c.Hard.Term {
		c.turn(h.term)
	}
	if c.reign != nil {
		return false
	}
	c.poll, c.leads, c.quiet = nil, h.from, 0
	c.clock.Set(draw)
	return true
}

// hear lays a leader's entries where they aren't yet.
func (m feed) hear(c *Core, draw uint64) {
	if !c.follows(m.head, draw) {
		return
	}
	if !c.joins(m.prev) {
		c.refuse(m)
		return
	}
	if es := c.lacks(m.entries); len(es) > 0 {
		if es[0].Index <= c.commit {
			// What is agreed stays, whoever says otherwise.
			return
		}
		c.keep(c.State, es[0].Index, es...)
	}
	last := m.prev.Index + len(m.entries)
	c.agree(min(m.commit, last))
	c.accept(m.from, last, m.round)
}

// joins: has it what stands ahead of entries? What is agreed all leaders have.
func (c *Core) joins(m api.Mark) bool {
	term, ok := c.Log.Term(m.Index)
	return m.Index < c.Mark().Index || ok && term == m.Term
}

// lacks are those of entries that its log doesn't have: from the first one on that is missing or another one.
func (c *Core) lacks(es []api.Entry) []api.Entry {
	for i, e := range es {
		term, ok := c.Log.Term(e.Index)
		if e.Index > c.Mark().Index && (!ok || term != e.Term) {
			return es[i:]
		}
	}
	return nil
}

// agree is that entries up to an Index are agreed. A snapshot of some of them isn't needed.
func (c *Core) agree(index int) {
	c.commit = max(c.commit, index)
	if c.heap.Mark().Index <= c.commit {
		c.heap.Drop()
	}
}

// accept tells the leader up to where the logs are the same: at least up to what is agreed.
func (c *Core) accept(to, index, round int) {
	c.say(to, reply{head: c.head(), yes: true, index: max(index, c.commit), commit: c.commit, round: round})
}

// refuse tells the leader that what stood ahead of its entries isn't here.
func (c *Core) refuse(m feed) {
	r := reply{head: c.head(), index: m.prev.Index, commit: c.commit, round: m.round}
	r.hint = c.under(min(m.prev.Index, c.Last().Index), m.prev.Term)
	if c.heap.Mark() == m.prev {
		r.place = c.heap.Missing()
	}
	c.say(m.from, r)
}

// under is the last entry up to an Index whose Term isn't above the given one; what the log begins behind, if there is none.
func (c *Core) under(index, term int) api.Mark {
	for i := index; i > c.Mark().Index; i-- {
		if t, _ := c.Log.Term(i); t <= term {
			return api.Mark{Index: i, Term: t}
		}
	}
	return c.Mark()
}

// hear gathers a piece of a leader's snapshot, which is installed once it is whole.
func (m part) hear(c *Core, draw uint64) {
	if !c.follows(m.head, draw) {
		return
	}
	p := m.piece
	if term, ok := c.Log.Term(p.Index); p.Index > c.commit && (!ok || term != p.Term) {
		all, e := c.heap.Take(p)
		if !all || e != api.OK || !c.install(p.Mark) {
			return
		}
	}
	c.agree(p.Index)
	c.accept(m.from, p.Index, 0)
}

// install puts the snapshot that is gathered in the place of what it stands for, if it is one.
func (c *Core) install(m api.Mark) bool {
	b, _ := c.heap.Whole()
	x, e := shelf.Parse(b)
	if e != api.OK || x.Mark != m || !isBody(api.KindConf, x.Conf) {
		c.heap.Drop()
		return false
	}
	c.must(c.Install(x))
	c.book = c.read()
	return true
}
