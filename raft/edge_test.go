package raft_test

import (
	"testing"

	"echelon/api"
	"echelon/members"
	"echelon/raft"
)

const (
	top  = 10000000000 // what Indexes and Terms stay below
	ids  = 1 << 20     // and ids
	tops = 1 << 62     // and rounds
)

func number(ns ...uint64) []api.Val {
	var out []api.Val
	for _, n := range ns {
		out = append(out, api.Val{N: n})
	}
	return out
}

// entries are rows of Term, Kind and Body, one behind the other.
func entries(es ...api.Entry) api.Val {
	var v api.Val
	for _, e := range es {
		v.L = append(v.L, api.Val{L: append(number(uint64(e.Term), uint64(e.Kind)), api.Val{B: e.Body})})
	}
	return v
}

// with is a row of numbers, and of what comes behind them.
func with(more api.Val, ns ...uint64) api.Val {
	return api.Val{L: append(number(ns...), more)}
}

// TestEdges: bytes whose sum is right, but of which a number, or an entry, is one that no core has, are bytes that no core makes; at the edge of what one may have they aren't.
func TestEdges(t *testing.T) {
	conf := members.Bytes(plain(3).Boot)
	none, body := api.Entry{Term: 3}, api.Entry{Term: 3, Kind: api.KindBody, Body: make([]byte, api.MaxBody)}
	row := func(ns ...uint64) api.Val { return api.Val{L: number(ns...)} }
	feed := func(prev, term uint64, es ...api.Entry) api.Val {
		return with(entries(es...), 3, 1, prev, term, 0, 0)
	}
	piece := func(b string, ns ...uint64) api.Val { return with(api.Val{B: []byte(b)}, ns...) }
	for i, c := range []struct {
		kind byte
		v    api.Val
		ok   bool
	}{
		// Asks: Term, who, the last entry's Index and Term.
		{1, row(1, 0, 0, 0), true},
		{1, row(top-1, ids-1, top-1, top-2), true},
		{1, row(0, 0, 0, 0), false},
		{1, row(top, 0, 0, 0), false},
		{1, row(1, ids, 0, 0), false},
		{1, row(3, 0, top, 2), false},
		{1, row(3, 0, 1, top), false},
		{1, row(3, 0, 1, 3), false},
		{1, row(3, 0, 1, 0), false},
		{1, row(3, 0, 0, 1), false},
		{1, row(1<<64-1, 0, 0, 0), false},
		// Votes: Term, who, yes.
		{2, row(1, 0, 0), true},
		{2, row(top-1, ids-1, 1), true},
		{2, row(0, 0, 1), false},
		{2, row(top, 0, 1), false},
		{2, row(1, ids, 1), false},
		{2, row(1, 0, 2), false},
		// Feeds: Term, who, Index and Term ahead of the entries, commit, round, entries.
		{3, feed(0, 0), true},
		{3, feed(4, 3, none, body, none), true},
		{3, feed(4, 2, api.Entry{Term: 2}, none), true},
		{3, feed(4, 2, api.Entry{Term: 3, Kind: api.KindConf, Body: conf}), true},
		{3, with(entries(), top-1, ids-1, top-1, top-1, top-1, tops-1), true},
		{3, with(entries(), 0, 1, 0, 0, 0, 0), false},
		{3, with(entries(), top, 1, 0, 0, 0, 0), false},
		{3, with(entries(), 3, ids, 0, 0, 0, 0), false},
		{3, with(entries(), 3, 1, top, 1, 0, 0), false},
		{3, with(entries(), 3, 1, 1, top, 0, 0), false},
		{3, with(entries(), 3, 1, 0, 0, top, 0), false},
		{3, with(entries(), 3, 1, 0, 0, 0, tops), false},
		{3, feed(0, 1), false},
		{3, feed(1, 0), false},
		{3, feed(1, 4), false},
		{3, feed(4, 3, api.Entry{Term: 4}), false},
		{3, feed(4, 3, api.Entry{Term: 2}), false},
		{3, feed(4, 2, none, api.Entry{Term: 2}), false},
		{3, feed(0, 0, api.Entry{}), false},
		{3, feed(0, 0, api.Entry{Term: 3, Kind: 3}), false},
		{3, feed(0, 0, api.Entry{Term: 3, Body: []byte("x")}), false},
		{3, feed(0, 0, api.Entry{Term: 3, Kind: api.KindConf}), false},
		{3, feed(0, 0, api.Entry{Term: 3, Kind: api.KindConf, Body: append(conf, 0)}), false},
		{3, feed(0, 0, api.Entry{Term: 3, Kind: api.KindBody, Body: make([]byte, api.MaxBody+1)}), false},
		{3, feed(top-2, 3, none), true},
		{3, feed(top-1, 3, none), false},
		// Replies: Term, who, yes, Index, commit, round, place.
		{4, row(1, 0, 0, 0, 0, 0, 0), true},
		{4, row(top-1, ids-1, 1, top-1, top-1, tops-1, 1<<31-2), true},
		{4, row(0, 0, 0, 0, 0, 0, 0), false},
		{4, row(top, 0, 0, 0, 0, 0, 0), false},
		{4, row(1, ids, 0, 0, 0, 0, 0), false},
		{4, row(1, 0, 2, 0, 0, 0, 0), false},
		{4, row(1, 0, 0, top, 0, 0, 0), false},
		{4, row(1, 0, 0, 0, top, 0, 0), false},
		{4, row(1, 0, 0, 0, 0, tops, 0), false},
		{4, row(1, 0, 0, 0, 0, 0, 1<<31-1), false},
		// Pieces: Term, who, a snapshot's Index, Term, sum and size, where it stands, and the bytes.
		{5, piece("ab", 3, 0, 1, 3, 1<<32-1, 2, 0), true},
		{5, piece("ab", top-1, ids-1, top-1, top-1, 0, 1<<31-1, 1<<31-3), true},
		{5, piece("ab", top, 0, 1, 3, 7, 2, 0), false},
		{5, piece("ab", 3, ids, 1, 3, 7, 2, 0), false},
		{5, piece("ab", 3, 0, top, 3, 7, 2, 0), false},
		{5, piece("ab", 3, 0, 1, 4, 7, 2, 0), false},
		{5, piece("ab", 3, 0, 0, 0, 7, 2, 0), false},
		{5, piece("ab", 3, 0, 1, 0, 7, 2, 0), false},
		{5, piece("ab", 3, 0, 0, 3, 7, 2, 0), false},
		{5, piece("ab", 3, 0, 1, 3, 1<<32, 2, 0), false},
		{5, piece("ab", 3, 0, 1, 3, 7, 1<<31, 0), false},
		{5, piece("ab", 3, 0, 1, 3, 7, 2, 1), false},
		{5, piece("ab", 3, 0, 1, 3, 7, 1, 0), false},
		{5, piece("ab", 3, 0, 1, 3, 7, 2, 1<<31), false},
		{5, piece("", 3, 0, 1, 3, 7, 0, 0), false},
		{5, piece("", 3, 0, 1, 3, 7, 2, 1), false},
	} {
		k := opened(t, space(t, 1<<22), 0, plain(3), 0)
		want := api.OK
		if !c.ok {
			want = api.ErrForm
		}
		if _, e := k.Hear(raft.Lay(c.kind, c.v), 0); e != want {
			t.Errorf("P12.2: %d, of kind %d: %d, not %d", i, c.kind, e, want)
		}
	}
}
