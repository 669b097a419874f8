package raft_test

import (
	"fmt"
	"testing"

	"echelon/api"
	"echelon/members"
	"echelon/raft"
)

const (
	top  = 10000000000 // what Indexes and Terms stay below
	ids  = 1 << 20     // and ids
	tops = 1 << 40     // and rounds
)

func number(ns ...uint64) []api.Val {
	var out []api.Val
	for _, n := range ns {
		out = append(out, api.Val{N: n})
	}
	return out
}

// entries are rows of Term, Kind and Body, one behind the other.
func entries(es ...api.Entry) api.Val {
	var v api.Val
	for _, e := range es {
		v.L = append(v.L, api.Val{L: append(number(uint64(e.Term), uint64(e.Kind)), api.Val{B: e.Body})})
	}
	return v
}

// with is a row of numbers, and of what comes behind them.
func with(more api.Val, ns ...uint64) api.Val {
	return api.Val{L: append(number(ns...), more)}
}

// said is bytes whose sum is right, of a kind: may a core have made them?
type said struct {
	kind byte
	v    api.Val
	ok   bool
}

// heard holds a new core to hear bytes, if a core may have made them; else to say so, and nothing to have changed, nor its timer.
func (s said) heard(t *testing.T, what string) {
	t.Helper()
	o := plain(3)
	d := space(t, 1<<22)
	c := opened(t, d, 0, o, 0)
	for range 5 {
		c.Tick(0)
	}
	was, b := tell(c, d), raft.Lay(s.kind, s.v)
	ps, e := c.Hear(b, uint64(o.Least-1))
	if s.ok {
		if e != api.OK {
			t.Errorf("P12.2: %s: a post of kind %d, %.80x, isn't heard: %d", what, s.kind, b, e)
		}
		return
	}
	if e != api.ErrForm || len(ps) != 0 || tell(c, d) != was {
		t.Errorf("P12.2: %s: bytes of kind %d, %.80x: %d, %d posts; it is %s", what, s.kind, b, e, len(ps), tell(c, d))
	}
	for range o.Least - 5 {
		c.Tick(0)
	}
	if c.Role() != api.Candidate || c.State.Term != 1 {
		t.Errorf("P12.2: %s: bytes of kind %d, %.80x, set the timer", what, s.kind, b)
	}
}

// plainly is a row of numbers.
func plainly(ns ...uint64) api.Val { return api.Val{L: number(ns...)} }

// fed is a feed of server 1 in Term 3, at commit 0, ahead of its first round.
func fed(prev, term uint64, es ...api.Entry) api.Val {
	return with(entries(es...), 3, 1, prev, term, 0, 0)
}

// TestEdges: bytes whose sum is right, but of which a number, or an entry, is one that no core has, are bytes that no core makes; at the edge of what one may have they aren't.
func TestEdges(t *testing.T) {
	conf := members.Bytes(plain(3).Boot)
	none, body := api.Entry{Term: 3}, api.Entry{Term: 3, Kind: api.KindBody, Body: make([]byte, api.MaxBody)}
	for i, s := range []said{
		// Asks: Term, who, the last entry's Index and Term.
		{1, plainly(1, 0, 0, 0), true},
		{1, plainly(top-1, ids-1, top-1, top-2), true},
		{1, plainly(0, 0, 0, 0), false},
		{1, plainly(top, 0, 0, 0), false},
		{1, plainly(1, ids, 0, 0), false},
		{1, plainly(3, 0, top, 2), false},
		{1, plainly(3, 0, 1, top), false},
		{1, plainly(3, 0, 1, 3), false},
		{1, plainly(3, 0, 1, 0), false},
		{1, plainly(3, 0, 0, 1), false},
		{1, plainly(1<<64-1, 0, 0, 0), false},
		// Votes: Term, who, yes.
		{2, plainly(1, 0, 0), true},
		{2, plainly(top-1, ids-1, 1), true},
		{2, plainly(0, 0, 1), false},
		{2, plainly(top, 0, 1), false},
		{2, plainly(1, ids, 1), false},
		{2, plainly(1, 0, 2), false},
		// Feeds: Term, who, Index and Term ahead of the entries, commit, round, entries.
		{3, fed(0, 0), true},
		{3, fed(4, 3, body, body), true},
		{3, fed(4, 2, none, body), true},
		{3, fed(4, 1, api.Entry{Term: 2}, none), true},
		{3, fed(4, 3, api.Entry{Term: 3, Kind: api.KindConf, Body: conf}), false}, // its own, at commit 0
		{3, fed(4, 2, api.Entry{Term: 2, Kind: api.KindConf, Body: conf}), true},
		{3, with(entries(), top-1, ids-1, top-1, top-1, top-1, tops-1), true},
		{3, with(entries(), 0, 1, 0, 0, 0, 0), false},
		{3, with(entries(), top, 1, 0, 0, 0, 0), false},
		{3, with(entries(), 3, ids, 0, 0, 0, 0), false},
		{3, with(entries(), 3, 1, top, 1, 0, 1), false},
		{3, with(entries(), 3, 1, 1, top, 0, 1), false},
		{3, with(entries(), 3, 1, 0, 0, top, 1), false},
		{3, with(entries(), 3, 1, 0, 0, 0, tops), false},
		{3, fed(0, 1), false},
		{3, fed(1, 0), false},
		{3, fed(1, 4), false},
		{3, fed(4, 3, api.Entry{Term: 4}), false},
		{3, fed(4, 3, api.Entry{Term: 2, Kind: api.KindBody}), false},
		{3, fed(4, 2, none, api.Entry{Term: 2, Kind: api.KindBody}), false},
		{3, fed(0, 0, api.Entry{}), false},
		{3, fed(0, 0, api.Entry{Kind: api.KindBody}), false},
		{3, fed(4, 3, api.Entry{Term: 3, Kind: 3}), false},
		{3, fed(0, 0, api.Entry{Term: 3, Body: []byte("x")}), false},
		{3, fed(4, 2, api.Entry{Term: 2, Kind: api.KindConf}), false},
		{3, fed(4, 2, api.Entry{Term: 2, Kind: api.KindConf, Body: append(conf, 0)}), false},
		{3, fed(4, 3, api.Entry{Term: 3, Kind: api.KindBody, Body: make([]byte, api.MaxBody+1)}), false},
		{3, fed(top-2, 3, body), true},
		{3, fed(top-1, 3, body), false},
		// Replies: Term, who, yes, Index, commit, round, place.
		{4, plainly(1, 0, 1, 0, 0, 1, 0), true},
		{4, plainly(top-1, ids-1, 1, top-1, top-1, tops-1, 0), true},
		{4, plainly(top-1, ids-1, 0, top-1, top-2, tops-1, 1<<31-2), true},
		{4, plainly(0, 0, 1, 1, 0, 0, 0), false},
		{4, plainly(top, 0, 1, 1, 0, 0, 0), false},
		{4, plainly(1, ids, 1, 1, 0, 0, 0), false},
		{4, plainly(1, 0, 2, 1, 0, 0, 0), false},
		{4, plainly(1, 0, 0, top, 0, 0, 0), false},
		{4, plainly(1, 0, 1, 1, top, 0, 0), false},
		{4, plainly(1, 0, 1, 1, 0, tops, 0), false},
		{4, plainly(1, 0, 0, 1, 0, 0, 1<<31-1), false},
	} {
		s.heard(t, fmt.Sprint(i))
	}
}
