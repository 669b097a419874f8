package raft_test

import (
	"math"
	"slices"

	"echelon/api"
	"echelon/hard"
	"echelon/members"
	"echelon/raft"
)

// seen is what was seen of a group.
type seen struct {
	stands  []stand               // how each stood when it was looked at last
	clocks  []int                 // how many ticks are to come until the timer of each fires
	commits []int                 // of each
	states  map[int]api.State     // of those that stopped without their disk having had an error
	leaders map[int]int           // of a Term
	agreed  map[int]api.Entry     // at an Index
	top     int                   // the last Index of these
	bodies  map[string]int        // that were proposed: at which Index each is agreed; 0, if it isn't
	snaps   map[api.Mark][]string // that were made
	reads   map[int]asked         // by their tokens, till they are told
	fresh   int                   // how many were told
}

// stand is how a core stands. If it stands as it did, nothing came to its log: two logs with one last entry are one.
type stand struct {
	mark, last         api.Mark
	state              api.State
	role, leads, agree int
	down               bool
}

// asked is who asked for a read, and up to where all was agreed then.
type asked struct{ id, top int }

func unseen(n int) seen {
	return seen{
		stands: make([]stand, n), clocks: make([]int, n), commits: make([]int, n), states: map[int]api.State{}, leaders: map[int]int{},
		agreed: map[int]api.Entry{}, bodies: map[string]int{}, snaps: map[api.Mark][]string{}, reads: map[int]asked{},
	}
}

// check holds each sentence of P12.5, and of P12.2 to P12.4 what can be seen of a core, behind a step of it.
func (g *group) check(i int) {
	g.t.Helper()
	c := g.cores[i]
	if c.Commit() < g.commits[i] || c.Commit() > c.Last().Index || c.Commit() < c.Mark().Index {
		g.fail("P12.4: %d: commit %d, then %d; last %v, mark %v", i, g.commits[i], c.Commit(), c.Last(), c.Mark())
	}
	g.commits[i] = c.Commit()
	g.checkReads(c)
	now := stand{c.Mark(), c.Last(), c.State, c.Role(), c.Leads(), c.Commit(), c.Down()}
	if now == g.stands[i] && !now.down {
		return
	}
	g.stands[i] = now
	if !c.Down() {
		if c.Synced() != c.Last().Index || hard.On(g.disks[i]) != c.State {
			g.fail("P12.2: %d: synced %d of %v; it has %v, its disk %v", i, c.Synced(), c.Last(), c.State, hard.On(g.disks[i]))
		}
		g.checkAgreed(c)
		g.checkSnap(c)
	}
	g.checkRole(c)
	g.checkConf(c)
	for _, d := range g.cores {
		if d != nil && d != c {
			g.checkLogs(c, d)
		}
	}
	g.checkLeader()
}

// checkAgreed: entries that are agreed at one Index are one entry, for ever.
func (g *group) checkAgreed(c *raft.Core) {
	g.t.Helper()
	first := c.Mark().Index + 1
	es := c.Agreed(first, math.MaxInt)
	if len(es) != c.Commit()-first+1 {
		g.fail("P12.4: %d: %d are agreed from %d to %d", c.ID(), len(es), first, c.Commit())
	}
	for k, e := range es {
		if e.Index != first+k {
			g.fail("P12.4: %d: from %d on %v are agreed", c.ID(), first, es)
		}
		was, ok := g.agreed[e.Index]
		if ok && !sameEntry(was, e) {
			g.fail("P12.5: %d: %v is agreed, and %v was", c.ID(), e, was)
		}
		if !ok {
			g.agree(e)
		}
	}
}

// agree: each body is one that was proposed, and agreed at one Index at most.
func (g *group) agree(e api.Entry) {
	g.t.Helper()
	g.agreed[e.Index] = e
	g.top = max(g.top, e.Index)
	if e.Kind != api.KindBody {
		return
	}
	at, ok := g.bodies[string(e.Body)]
	if !ok || at != 0 {
		g.fail("P12.5: %v is agreed, which was proposed %t, and is agreed at %d", e, ok, at)
	}
	g.bodies[string(e.Body)] = e.Index
}

// checkSnap: a snapshot is one that was made, with the configuration up to there.
func (g *group) checkSnap(c *raft.Core) {
	g.t.Helper()
	x, ok := c.Newest()
	if !ok {
		return
	}
	if !slices.Contains(g.snaps[x.Mark], string(x.Body)) {
		g.fail("P12.5: %d has a snapshot %v that none made", c.ID(), x)
	}
	want := g.o.Boot
	for k := x.Index; k > 0; k-- {
		if e := g.agreed[k]; e.Kind == api.KindConf {
			want, _ = members.Parse(e.Body)
			break
		}
	}
	if conf, e := members.Parse(x.Conf); e != api.OK || !sameConf(conf, want) {
		g.fail("P12.4: %d has a snapshot at %v of %v, not %v", c.ID(), x.Mark, conf, want)
	}
}

// checkRole: of one Term one core at most is ever leader, and who tells of one tells of that one; and the first entry of its Term is of KindNone.
func (g *group) checkRole(c *raft.Core) {
	g.t.Helper()
	term := c.State.Term
	id, ok := g.leaders[term]
	switch c.Role() {
	case api.Leader:
		if ok && id != c.ID() || c.Leads() != c.ID() {
			g.fail("P12.5: %d leads in %d, as %d did, and knows %d", c.ID(), term, id, c.Leads())
		}
		g.leaders[term] = c.ID()
		first := slices.IndexFunc(log(c), func(e api.Entry) bool { return e.Term == term })
		if first >= 0 && c.Mark().Term < term && (log(c)[first].Kind != api.KindNone || len(log(c)[first].Body) > 0) || first < 0 && c.Mark().Term < term && !c.Down() {
			g.fail("P12.3: %d leads, and the first of its Term is %d of %v", c.ID(), first, log(c))
		}
	case api.Candidate:
		if c.Vote != c.ID() || c.Leads() != -1 {
			g.fail("P12.3: %d stands, votes for %d, and knows %d", c.ID(), c.Vote, c.Leads())
		}
	default:
		if c.Leads() != -1 && (!ok || id != c.Leads()) {
			g.fail("P12.4: %d knows %d in %d, and %d led, %t", c.ID(), c.Leads(), term, id, ok)
		}
	}
}

// checkReads: what was agreed when a read was asked is at or below its Index, and that is agreed.
func (g *group) checkReads(c *raft.Core) {
	g.t.Helper()
	for _, f := range c.Reads() {
		a, ok := g.reads[f.Token]
		if !ok || a.id != c.ID() || f.Index < a.top || f.Index > c.Commit() || c.Down() {
			g.fail("P12.3: %d tells %v, which was asked %t of %d, as %d was agreed; commit %d", c.ID(), f, ok, a.id, a.top, c.Commit())
		}
		delete(g.reads, f.Token)
		g.fresh++
	}
}

// checkConf: configurations follow one another by one change each, and the last one of the log counts.
func (g *group) checkConf(c *raft.Core) {
	g.t.Helper()
	want := g.o.Boot
	if x, ok := c.Newest(); ok {
		want, _ = members.Parse(x.Conf)
	}
	for _, e := range log(c) {
		if e.Kind != api.KindConf {
			continue
		}
		next, err := members.Parse(e.Body)
		if err != api.OK || !oneChange(want, next) {
			g.fail("P12.5: %d: %v comes behind %v", c.ID(), next, want)
		}
		want = next
	}
	if got := c.Conf(); !sameConf(got, want) {
		g.fail("P12.4: %d: Conf %v, not %v", c.ID(), got, want)
	}
}

// checkLogs: where two logs have an entry of one Index and Term, they are the same up to it.
func (g *group) checkLogs(a, b *raft.Core) {
	g.t.Helper()
	one := false
	for k := min(a.Last().Index, b.Last().Index); k > max(a.Mark().Index, b.Mark().Index); k-- {
		x, _ := a.Log.Term(k)
		y, _ := b.Log.Term(k)
		one = one || x == y
		if !one {
			continue
		}
		v, _ := a.At(k)
		w, _ := b.At(k)
		if !sameEntry(v, w) {
			g.fail("P12.5: %d has %v, and %d %v", a.ID(), v, b.ID(), w)
		}
	}
}

// checkLeader: a leader of the greatest Term that any has has all that is agreed.
func (g *group) checkLeader() {
	g.t.Helper()
	term := 0
	for _, d := range g.disks {
		term = max(term, hard.On(d).Term)
	}
	for _, c := range g.cores {
		if c == nil || c.Role() != api.Leader || c.State.Term != term {
			continue
		}
		for k := c.Mark().Index + 1; k <= g.top; k++ {
			e, _ := c.At(k)
			if was, ok := g.agreed[k]; ok && !sameEntry(e, was) {
				g.fail("P12.5: %d leads in %d, and has %v, not %v", c.ID(), term, e, was)
			}
		}
	}
}
