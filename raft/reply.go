package raft

import (
	"slices"

	"echelon/api"
	"echelon/members"
	"echelon/tally"
)

// hear goes by what a peer has.
func (m reply) hear(c *Core, _ uint64) {
	if !c.answers(m.head) || c.reign == nil || !slices.Contains(c.peers(), m.from) || m.index > c.Last().Index {
		return
	}
	c.reign.heard[m.from] = max(c.reign.heard[m.from], m.round)
	if m.yes {
		c.accepted(m)
	} else {
		c.refused(m)
	}
}

// accepted tells a peer what comes next, if there is more, and this isn't said by an old post.
func (c *Core) accepted(m reply) {
	c.reign.Ack(m.from, m.index)
	c.advance()
	if c.reign == nil || m.index < c.reign.Match(m.from) {
		return
	}
	if c.more(m.from) || m.commit < c.commit {
		c.feed(m.from, c.options.Feed)
	}
}

// refused goes back to where the logs may be the same. A snapshot isn't sent again to one who may not have had the time to hear it.
func (c *Core) refused(m reply) {
	c.settle()
	moved := c.reign.Back(m.from, m.index, c.meets(m.hint))
	switch far := c.far(m.from); {
	case moved && !far:
		c.feed(m.from, c.options.Feed)
	case far && m.index == c.Mark().Index && m.round > c.reign.sent[m.from]:
		c.ship(m.from, m.place)
	case moved:
		c.ship(m.from, 0)
	}
}

// meets is the last Index at which its log may be the same as one that is no further up than a place. What is gone into the snapshot can't be looked at.
func (c *Core) meets(m api.Mark) int {
	if m.Index <= c.Mark().Index {
		return m.Index
	}
	return c.under(min(m.Index, c.Last().Index), m.Term).Index
}

// advance lets the commit rise to what most have, if that is of its Term: of others an entry that most have may still be lost. A leader who was taken out leads no more, once that is agreed.
func (c *Core) advance() {
	own := api.Match{ID: c.id, Index: c.Last().Index}
	index, elder := tally.Commit(c.book.now(), append(c.reign.All(), own)...), c.commit
	if term, _ := c.Log.Term(index); index > elder && term == c.Hard.Term {
		c.agree(index)
		c.spread(c.Last().Index, elder)
	}
	c.settle()
	if !members.Has(c.book.now(), c.id) && c.book.at() <= c.commit {
		c.rest()
	}
}

// settle lets those reads be fresh whose round most have heard.
func (c *Core) settle() {
	r := c.reign
	n := 0
	for n < len(r.reads) && c.heard(r.reads[n].round) {
		c.fresh = append(c.fresh, r.reads[n].Fresh)
		n++
	}
	r.reads = slices.Delete(r.reads, 0, n)
}

// heard: have most heard this round?
func (c *Core) heard(round int) bool {
	ids := []int{c.id}
	for id, last := range c.reign.heard {
		if last >= round {
			ids = append(ids, id)
		}
	}
	return members.Majority(c.book.now(), ids...)
}
