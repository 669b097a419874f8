package raft

import (
	"slices"

	"echelon/api"
	"echelon/members"
	"echelon/tally"
)

// hear goes by what a peer has.
func (m reply) hear(c *Core, _ uint64) {
	if !c.answers(m.head) || c.reign == nil || !slices.Contains(c.peers(), m.from) {
		return
	}
	c.reign.heard[m.from] = max(c.reign.heard[m.from], m.round)
	if m.yes {
		c.accepted(m)
	} else {
		c.refused(m)
	}
}

// accepted tells a peer what comes next, if there is more.
func (c *Core) accepted(m reply) {
	moved := c.reign.Ack(m.from, m.index)
	rose := c.advance()
	if c.reign == nil || !moved && !c.lost(m) {
		return
	}
	more := c.reign.Next(m.from) <= c.limit(m.from, c.Last().Index)
	// One that has all was told of the commit as it rose.
	if more || m.commit < c.commit && !rose {
		c.feed(m.from)
	}
}

// lost: was this said behind what the peer was sent last? Else it may not have had the time to hear that, and isn't sent it again.
func (c *Core) lost(m reply) bool {
	return m.round > c.reign.sent[m.from]
}

// refused goes back to where the logs are the same for sure: to what the peer knows to be agreed.
func (c *Core) refused(m reply) {
	moved := c.reign.Back(m.from, m.index, m.commit)
	switch far := c.far(m.from); {
	case far && (moved || c.lost(m)):
		c.ship(m.from, m.place)
	case moved:
		c.feed(m.from)
	}
}

// advance lets the commit rise to what most have, if that is of its Term: of others an entry that most have may still be lost. Does it rise? A leader who was taken out leads no more, once that is agreed.
func (c *Core) advance() bool {
	own := api.Match{ID: c.id, Index: c.Last().Index}
	index, elder := tally.Commit(c.book.now(), append(c.reign.All(), own)...), c.commit
	if term, _ := c.Log.Term(index); index > elder && term == c.Hard.Term {
		c.agree(index)
		c.spread(c.Last().Index)
	}
	c.settle()
	if !members.Has(c.book.now(), c.id) && c.book.at() <= c.commit {
		c.rest()
	}
	return c.commit > elder
}

// settle lets those reads be fresh whose round most have heard.
func (c *Core) settle() {
	r := c.reign
	n := 0
	for n < len(r.reads) && c.heard(r.reads[n].round) {
		c.fresh = append(c.fresh, r.reads[n].Fresh)
		n++
	}
	r.reads = slices.Delete(r.reads, 0, n)
}

// heard: have most heard this round?
func (c *Core) heard(round int) bool {
	ids := []int{c.id}
	for id, last := range c.reign.heard {
		if last >= round {
			ids = append(ids, id)
		}
	}
	return members.Majority(c.book.now(), ids...)
}
