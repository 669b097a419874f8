package raft

import (
	"slices"

	"echelon/api"
	"echelon/members"
)

// Propose lays entries. ErrDown, ErrLead, ErrArg.
func (c *Core) Propose(bodies ...[]byte) (at api.Mark, _ []api.Post, _ api.Errno) {
	ps, e := c.run(func() api.Errno {
		if c.reign == nil {
			return api.ErrLead
		}
		if len(bodies) == 0 || slices.ContainsFunc(bodies, func(b []byte) bool { return len(b) > api.MaxBody }) {
			return api.ErrArg
		}
		at = c.append(api.KindBody, bodies...)
		return api.OK
	})
	return at, ps, e
}

// append lays entries of its Term behind its log, and tells the last one's place.
func (c *Core) append(kind int, bodies ...[]byte) api.Mark {
	last := c.Last().Index
	at := api.Mark{Index: last, Term: c.Hard.Term}
	var es []api.Entry
	for _, b := range bodies {
		at.Index++
		es = append(es, api.Entry{Index: at.Index, Term: at.Term, Kind: kind, Body: b})
	}
	c.keep(c.State, 0, es...)
	c.laid(last)
	return at
}

// Change changes the configuration. ErrDown, ErrLead, ErrBusy, and layer 8's errors.
func (c *Core) Change(ch api.Change) (at api.Mark, _ []api.Post, _ api.Errno) {
	ps, e := c.run(func() api.Errno {
		if c.reign == nil {
			return api.ErrLead
		}
		if !c.begun() || c.book.at() > c.commit {
			return api.ErrBusy
		}
		conf, e := members.Next(c.book.now(), ch)
		if e != api.OK {
			return e
		}
		at = c.append(api.KindConf, members.Bytes(conf))
		return api.OK
	})
	return at, ps, e
}

// begun: is an entry of its Term agreed? So all are that were agreed when the Term began.
func (c *Core) begun() bool {
	term, _ := c.Log.Term(c.commit)
	return term == c.Hard.Term
}

// Read asks for a fresh read. ErrDown, ErrLead, ErrBusy.
func (c *Core) Read(token int) ([]api.Post, api.Errno) {
	return c.run(func() api.Errno {
		if c.reign == nil {
			return api.ErrLead
		}
		if !c.begun() {
			return api.ErrBusy
		}
		c.sound()
		c.reign.reads = append(c.reign.reads, read{api.Fresh{Token: token, Index: c.commit}, c.reign.round})
		c.settle()
		return api.OK
	})
}

// Reads are the reads that became fresh.
func (c *Core) Reads() []api.Fresh {
	if c.down {
		return nil
	}
	fresh := c.fresh
	c.fresh = nil
	return fresh
}

// Compact puts a snapshot in the place of entries. ErrDown, ErrArg.
func (c *Core) Compact(index int, body []byte) api.Errno {
	_, e := c.run(func() api.Errno {
		if index <= c.Mark().Index || index > c.commit {
			return api.ErrArg
		}
		term, _ := c.Log.Term(index)
		conf := c.book.behind(c.book.upTo(index))
		c.must(c.Vault.Compact(api.Snap{Mark: api.Mark{Index: index, Term: term}, Conf: members.Bytes(conf), Body: body}))
		c.book.begin(index)
		return api.OK
	})
	return e
}
