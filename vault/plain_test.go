package vault_test

import (
	"slices"

	"echelon/api"
)

// plain is what a vault has: a state, a snapshot (the zero one, if there is none), and the entries behind it. It does what the chapter says to values alone.
type plain struct {
	state api.State
	snap  api.Snap
	log   []api.Entry
}

// last is the last entry's place, or that of the snapshot.
func (p plain) last() api.Mark {
	if len(p.log) == 0 {
		return p.snap.Mark
	}
	e := p.log[len(p.log)-1]
	return mark(e.Index, e.Term)
}

// entry is the one of an Index.
func (p plain) entry(index int) (api.Entry, bool) {
	for _, e := range p.log {
		if e.Index == index {
			return e, true
		}
	}
	return api.Entry{}, false
}

// ahead are the entries ahead of an Index.
func (p plain) ahead(index int) []api.Entry {
	var es []api.Entry
	for _, e := range p.log {
		if e.Index < index {
			es = append(es, e)
		}
	}
	return es
}

// mayBe: may the state be kept?
func (p plain) mayBe(s api.State) bool {
	if s.Term < 0 || s.Term >= 1<<62 || s.Vote < -1 || s.Vote >= 1<<62 {
		return false
	}
	if s.Term == p.state.Term {
		return s.Vote == p.state.Vote || p.state.Vote == -1
	}
	return s.Term > p.state.Term
}

// mayCome: may the entries come behind the others?
func (p plain) mayCome(es []api.Entry) bool {
	last := p.last()
	for _, e := range es {
		if e.Index != last.Index+1 || e.Index >= top || e.Term < 1 || e.Term < last.Term || e.Term >= top {
			return false
		}
		if e.Kind < 0 || e.Kind > 255 || len(e.Body) > 1<<20 {
			return false
		}
		last = mark(e.Index, e.Term)
	}
	return true
}

// call is one of Keep, Compact, Install.
type call struct {
	what string // k, c, i
	s    api.State
	from int
	es   []api.Entry
	x    api.Snap
}

// stages is what is there ahead of a call and behind each part of it that a crash may leave, the last one behind all of it; and what the call answers on a disk that does all.
func (p plain) stages(c call) ([]plain, api.Errno) {
	if c.what == "k" {
		return p.keep(c)
	}
	_, there := p.entry(c.x.Index)
	n, _ := p.entry(c.x.Index)
	there = there && n.Term == c.x.Term
	switch {
	case c.what == "c" && !there:
		return []plain{p}, api.ErrArg
	case c.x.Index < 1 || c.x.Index >= top || c.x.Term < 1 || c.x.Term >= top || c.x.Index <= p.snap.Index:
		return []plain{p}, api.ErrArg
	}
	q := plain{p.state, c.x, nil}
	for _, e := range p.log {
		if there && e.Index > c.x.Index {
			q.log = append(q.log, e)
		}
	}
	return []plain{p, q}, api.OK
}

// keep is Keep's stages: the state comes first, then entries go from behind, then others come.
func (p plain) keep(c call) ([]plain, api.Errno) {
	out := []plain{p}
	if !p.mayBe(c.s) {
		return out, api.ErrArg
	}
	p.state = c.s
	out = append(out, p)
	if c.from > 0 {
		if c.from <= p.snap.Index {
			return out, api.ErrArg
		}
		for p.last().Index >= c.from {
			p.log = p.ahead(p.last().Index)
			out = append(out, p)
		}
	}
	if !p.mayCome(c.es) {
		return out, api.ErrArg
	}
	for _, e := range c.es {
		p.log = append(slices.Clone(p.log), e)
		out = append(out, p)
	}
	return out, api.OK
}
