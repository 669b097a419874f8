package raft_test

import (
	"fmt"
	"math"
	"testing"

	"echelon/api"
	"echelon/members"
	"echelon/raft"
)

// TestAlone: the chapter's example: a server that is alone leads behind its span, lays an entry of its Term, and agrees with itself at once.
func TestAlone(t *testing.T) {
	for draw := range uint64(24) {
		d := space(t, 9999)
		c := opened(t, d, 0, plain(1), draw)
		span := 12 + int(draw%12)
		for range span - 1 {
			if ps := c.Tick(draw); len(ps) != 0 || c.Role() != api.Follower || c.Last().Index != 0 {
				t.Fatalf("P12.3: draw %d: too early: %d", draw, c.Role())
			}
		}
		if ps := c.Tick(draw); len(ps) != 0 || c.Role() != api.Leader || c.Leads() != 0 || c.State != (api.State{Term: 1, Vote: 0}) {
			t.Fatalf("P12.3: draw %d: it is %d, and knows %d", draw, c.Role(), c.Leads())
		}
		if es := c.Agreed(1, 9); len(es) != 1 || !sameEntry(es[0], api.Entry{Index: 1, Term: 1, Kind: api.KindNone}) || c.Commit() != 1 {
			t.Fatalf("P12.3: it lays %v, commit %d", es, c.Commit())
		}
		m, ps, e := c.Propose([]byte("a"), nil, []byte("c"))
		if m != (api.Mark{Index: 4, Term: 1}) || len(ps) != 0 || e != api.OK || c.Commit() != 4 {
			t.Fatalf("P12.3: Propose: %v, %v, %d; commit %d", m, ps, e, c.Commit())
		}
		if got := fmt.Sprint(c.Agreed(2, 9)); got != fmt.Sprint([]api.Entry{{Index: 2, Term: 1, Kind: 1, Body: []byte("a")}, {Index: 3, Term: 1, Kind: 1}, {Index: 4, Term: 1, Kind: 1, Body: []byte("c")}}) {
			t.Fatalf("P12.3: %s", got)
		}
	}
}

// TestAloneAgain: opened anew, it leads in the next Term, and what was agreed is.
func TestAloneAgain(t *testing.T) {
	c, d := leading(t, plain(1))
	c.Propose([]byte("a"))
	d.Crash()
	c = opened(t, d, 0, plain(1), 3)
	if c.Commit() != 0 || c.Last().Index != 2 || c.Role() != api.Follower {
		t.Fatalf("P12.1: it is %s", tell(c, d))
	}
	for range 15 {
		c.Tick(0)
	}
	if c.Commit() != 3 || c.Last() != (api.Mark{Index: 3, Term: 2}) || c.State.Term != 2 {
		t.Errorf("P12.5: it is %s", tell(c, d))
	}
}

// TestAloneLearners: learners don't count, but are told.
func TestAloneLearners(t *testing.T) {
	o := plain(1)
	o.Boot.Learners = []int{4, 6}
	c, _ := leading(t, o)
	_, ps, e := c.Propose([]byte("a"))
	if e != api.OK || c.Commit() != 2 {
		t.Errorf("P12.3: Propose: %d, commit %d", e, c.Commit())
	}
	for _, p := range ps {
		if p.To != 4 && p.To != 6 {
			t.Errorf("P12.3: a post to %d", p.To)
		}
	}
	if _, e := c.Read(5); e != api.OK {
		t.Errorf("P12.3: Read: %d", e)
	}
	if l := c.Reads(); len(l) != 1 || l[0] != (api.Fresh{Token: 5, Index: 2}) {
		t.Errorf("P12.3: Reads: %v", l)
	}
}

func TestPropose(t *testing.T) {
	big := make([]byte, api.MaxBody+1)
	c, d := leading(t, plain(1))
	all := tell(c, d)
	for i, bs := range [][][]byte{nil, {}, {big}, {nil, big}, {big, nil}} {
		if m, ps, e := c.Propose(bs...); m != (api.Mark{}) || len(ps) != 0 || e != api.ErrArg {
			t.Errorf("P12.3: Propose %d: %v, %d, %d", i, m, len(ps), e)
		}
	}
	if tell(c, d) != all {
		t.Errorf("P12.3: it is %s, not %s", tell(c, d), all)
	}
	if m, _, e := c.Propose(big[1:], nil); m != (api.Mark{Index: 3, Term: 1}) || e != api.OK || len(c.Agreed(2, 1)[0].Body) != api.MaxBody {
		t.Errorf("P12.3: Propose of MaxBody bytes: %v, %d", m, e)
	}
	// Who doesn't lead refuses ahead of all else.
	for id, role := range []int{api.Follower, api.Candidate} {
		c := opened(t, space(t, 999), 0, plain(3), 0)
		for range 12 * id {
			c.Tick(0)
		}
		_, _, e := c.Propose(big)
		_, _, f := c.Change(api.Change{})
		_, h := c.Read(1)
		if c.Role() != role || e != api.ErrLead || f != api.ErrLead || h != api.ErrLead {
			t.Errorf("P12.3: of %d: %d, %d, %d", c.Role(), e, f, h)
		}
	}
}

func TestReads(t *testing.T) {
	c, _ := leading(t, plain(1))
	for round := range 3 {
		for _, token := range []int{7, -1, 7, math.MaxInt, math.MinInt} {
			if ps, e := c.Read(token); len(ps) != 0 || e != api.OK {
				t.Fatalf("P12.3: Read: %v, %d", ps, e)
			}
		}
		c.Propose([]byte("b"))
		want := []api.Fresh{{Token: 7}, {Token: -1}, {Token: 7}, {Token: math.MaxInt}, {Token: math.MinInt}}
		for i := range want {
			want[i].Index = 1 + round
		}
		if l := c.Reads(); fmt.Sprint(l) != fmt.Sprint(want) {
			t.Errorf("P12.3: Reads: %v, not %v", l, want)
		}
		if l := c.Reads(); len(l) != 0 {
			t.Errorf("P12.3: Reads once more: %v", l)
		}
	}
}

// edges are places at and around what counts in a log of ten agreed entries, with a snapshot at the fourth.
var edges = []int{math.MinInt, -1, 0, 1, 3, 4, 5, 6, 9, 10, 11, 12, math.MaxInt}

// ten is a core that leads alone, with ten agreed entries, and a snapshot at the fourth.
func ten(t *testing.T) *raft.Core {
	t.Helper()
	c, _ := leading(t, plain(1))
	for i := range 9 {
		c.Propose([]byte{byte(i)})
	}
	is(t, "P12.4: Compact", c.Compact(4, []byte("four")), api.OK)
	return c
}

func TestAgreed(t *testing.T) {
	c := ten(t)
	for _, from := range edges {
		for _, most := range edges {
			want := 0
			if from > 4 && from <= 10 {
				want = max(0, min(most, 11-from))
			}
			es := c.Agreed(from, most)
			for i, e := range es {
				if e.Index != from+i || e.Term != 1 || e.Kind != api.KindBody || len(e.Body) != 1 || int(e.Body[0]) != e.Index-2 {
					t.Errorf("P12.4: Agreed(%d, %d): %v", from, most, es)
				}
			}
			if len(es) != want {
				t.Errorf("P12.4: Agreed(%d, %d): %d of %d", from, most, len(es), want)
			}
		}
	}
}

func TestCompact(t *testing.T) {
	for _, index := range edges {
		c := ten(t)
		want := api.OK
		if index <= 4 || index > 10 {
			want = api.ErrArg
		}
		is(t, fmt.Sprintf("P12.4: Compact(%d)", index), c.Compact(index, []byte("new")), want)
		at, body := 4, "four"
		if want == api.OK {
			at, body = index, "new"
		}
		x, ok := c.Newest()
		if !ok || x.Mark != (api.Mark{Index: at, Term: 1}) || string(x.Body) != body || c.Mark() != x.Mark || c.Last().Index != 10 || c.Commit() != 10 || len(c.Agreed(at+1, 99)) != 10-at || len(c.Agreed(at, 99)) != 0 {
			t.Errorf("P12.4: Compact(%d): %v, %t; mark %v, last %v", index, x, ok, c.Mark(), c.Last())
		}
	}
}

// TestCompactConf: a snapshot has the configuration up to its place, and not what came behind it.
func TestCompactConf(t *testing.T) {
	c, d := leading(t, plain(1))
	var confs []api.Conf // at each Index from 1 on
	for i := range 8 {
		confs = append(confs, c.Conf())
		if i%2 == 0 {
			c.Change(api.Change{Do: api.AddLearner, ID: 10 + i})
		} else {
			c.Propose([]byte("b"))
		}
	}
	last := c.Conf()
	for index := 1; index <= 8; index++ {
		is(t, "P12.4: Compact", c.Compact(index, nil), api.OK)
		k := opened(t, d, 0, plain(1), 0)
		if !sameConf(c.Conf(), last) || !sameConf(k.Conf(), last) || k.Commit() != index {
			t.Fatalf("P12.4: behind Compact(%d): %v, opened anew %v; not %v", index, c.Conf(), k.Conf(), last)
		}
		x, _ := c.Newest()
		if want := confs[index-1]; string(x.Conf) != string(members.Bytes(want)) {
			t.Fatalf("P12.4: the snapshot at %d has %x, not %v", index, x.Conf, want)
		}
	}
}
