package raft

import (
	"echelon/api"
	"echelon/chunk"
	"echelon/members"
	"echelon/shelf"
	"echelon/tally"
)

// reign is what a leader keeps of its Term: how far its peers are; of each the last round that it heard, and the one at which it was sent what it lacks; and the reads that aren't fresh yet.
type reign struct {
	*tally.Track
	ticks, round int
	heard, sent  map[int]int
	reads        []read
}

// read is one that is fresh once most have heard a round.
type read struct {
	api.Fresh
	round int
}

// lead lays the first entry of its Term.
func (c *Core) lead() {
	last := c.Last().Index
	c.keep(c.State, 0, api.Entry{Index: last + 1, Term: c.Hard.Term, Kind: api.KindNone})
	c.poll, c.leads = nil, c.id
	c.reign = &reign{Track: tally.NewTrack(last), heard: map[int]int{}, sent: map[int]int{}}
	c.laid(last)
}

// laid is that there are entries behind an Index that weren't there.
func (c *Core) laid(last int) {
	c.reign.Only(last, c.others()...)
	c.spread(last)
	c.advance()
}

// others are who takes part beside it, and who did ahead of the last change, which they may not know of.
func (c *Core) others() []int {
	var ids []int
	for _, id := range append(members.All(c.book.now()), members.All(c.book.before())...) {
		if id != c.id {
			ids = append(ids, id)
		}
	}
	return ids
}

// peers are those whom it tells of its entries, rising: all who take part, and who doesn't know yet that he was taken out.
func (c *Core) peers() []int {
	var ids []int
	for _, m := range c.reign.All() {
		if members.Has(c.book.now(), m.ID) || m.Index < c.book.at() {
			ids = append(ids, m.ID)
		}
	}
	return ids
}

// limit is up to where one is told of entries, of which there are so many. Who was taken out learns it once that is agreed: ahead of it his vote may still be needed.
func (c *Core) limit(id, last int) int {
	if members.Has(c.book.now(), id) {
		return last
	}
	return c.commit
}

// beat tells all peers that it leads, each time that it is due.
func (c *Core) beat() {
	c.reign.ticks++
	if c.reign.ticks == c.options.Beat {
		c.reign.ticks = 0
		c.sound()
	}
}

// sound asks all peers who hears it.
func (c *Core) sound() {
	c.reign.round++
	for _, id := range c.peers() {
		c.tell(id, 0)
	}
}

// spread tells of what is new to those peers who have all up to an Index. The others will ask for it.
func (c *Core) spread(last int) {
	for _, id := range c.peers() {
		if c.reign.Next(id) > c.limit(id, last) {
			c.feed(id)
		}
	}
}

// feed tells a peer of the entries that it is to have next.
func (c *Core) feed(id int) {
	c.reign.sent[id] = c.reign.round
	c.tell(id, c.options.Feed)
}

// tell tells a peer of entries, at most so many, and how far all is agreed. One that lacks what is gone into the snapshot is asked whether it has that one's place.
func (c *Core) tell(id, most int) {
	next := max(c.reign.Next(id), c.Mark().Index+1)
	term, _ := c.Log.Term(next - 1)
	m := feed{head: c.head(), prev: api.Mark{Index: next - 1, Term: term}, commit: c.commit, round: c.reign.round}
	m.entries = c.From(next, min(most, c.limit(id, c.Last().Index)-next+1))
	c.say(id, m)
}

// far: are entries that a peer lacks gone into the snapshot?
func (c *Core) far(id int) bool {
	return c.reign.Next(id) <= c.Mark().Index
}

// ship tells a peer of the snapshot, from a byte on, all of it at once.
func (c *Core) ship(id, place int) {
	c.reign.sent[id] = c.reign.round
	x, _ := c.Newest()
	ps, _ := chunk.Cut(x.Mark, shelf.Bytes(x), c.options.Piece)
	for _, p := range ps {
		if p.At+len(p.B) > place {
			c.say(id, part{c.head(), p})
		}
	}
}
