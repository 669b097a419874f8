package raft

import (
	"echelon/api"
	"echelon/members"
	"echelon/tally"
)

// Tick lets a tick come.
func (c *Core) Tick(draw uint64) []api.Post {
	ps, _ := c.run(func() api.Errno {
		c.tick(draw)
		return api.OK
	})
	return ps
}

func (c *Core) tick(draw uint64) {
	fires := c.clock.Tick()
	switch {
	case c.reign != nil:
		c.beat()
	case fires && members.Votes(c.book.now(), c.id):
		c.stand(draw)
	}
}

// Hear hears a message. ErrDown, ErrForm.
func (c *Core) Hear(b []byte, draw uint64) ([]api.Post, api.Errno) {
	return c.run(func() api.Errno {
		m, ok := parse(b)
		if !ok {
			return api.ErrForm
		}
		m.hear(c, draw)
		return api.OK
	})
}

// enter keeps a Term and who is voted for in it. Of what was in another Term nothing stays.
func (c *Core) enter(s api.State) {
	elder := c.Hard.Term
	c.keep(s, 0)
	if s.Term > elder {
		c.rest()
		c.heap.Drop()
	}
}

// turn is that another Term has come, in which it voted for nobody yet.
func (c *Core) turn(term int) {
	c.enter(api.State{Term: term, Vote: nobody})
}

// rest lets it be a follower that knows no leader.
func (c *Core) rest() {
	c.poll, c.reign, c.leads = nil, nil, nobody
}

// stand asks all voters for the next Term.
func (c *Core) stand(draw uint64) {
	c.enter(api.State{Term: c.Hard.Term + 1, Vote: c.id})
	c.clock.Set(draw)
	conf := c.book.now()
	c.poll = tally.NewPoll(conf)
	c.count(true, c.id)
	if c.poll == nil {
		return
	}
	for _, id := range conf.Voters {
		if id != c.id {
			c.say(id, ask{c.head(), c.Last()})
		}
	}
}

// count lets one say yes or no to the candidate, which leads once most did say yes.
func (c *Core) count(yes bool, id int) {
	c.poll.Say(yes, id)
	if c.poll.Stands() == api.Won {
		c.lead()
	}
}

// hear lets it vote, and tell what it did. One that isn't a voter here, and lacks what is, may not know that it was taken out: it isn't heard, or its Terms would bring down all who lead.
func (m ask) hear(c *Core, draw uint64) {
	if !members.Votes(c.book.now(), m.from) && !c.reaches(m.last) {
		return
	}
	newer := m.term > c.Hard.Term
	free := newer || m.term == c.Hard.Term && (c.Vote == nobody || c.Vote == m.from)
	yes := free && c.reaches(m.last)
	switch {
	case yes:
		c.enter(api.State{Term: m.term, Vote: m.from})
		c.clock.Set(draw)
	case newer:
		c.turn(m.term)
	}
	c.say(m.from, vote{c.head(), yes})
}

// reaches: has a log with this last entry all agreed ones that are in its own?
func (c *Core) reaches(m api.Mark) bool {
	last := c.Last()
	return m.Term > last.Term || m.Term == last.Term && m.Index >= last.Index
}

// hear counts what a voter says.
func (m vote) hear(c *Core, _ uint64) {
	if c.answers(m.head) && c.poll != nil {
		c.count(m.yes, m.from)
	}
}

// answers: is this said in its Term? A greater one counts, if it is told by one who takes part.
func (c *Core) answers(h head) bool {
	if h.term > c.Hard.Term && members.Has(c.book.now(), h.from) {
		c.turn(h.term)
		return false
	}
	return h.term == c.Hard.Term
}
