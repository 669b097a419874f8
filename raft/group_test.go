package raft_test

import (
	"fmt"
	"math/rand"
	"testing"

	"echelon/api"
	"echelon/disk"
	"echelon/members"
	"echelon/raft"
)

// group is cores, each on a disk of its own, what is under way between them, and what was seen of them so far.
type group struct {
	t     *testing.T
	what  string
	r     *rand.Rand
	o     api.Options
	disks []*disk.Disk
	cores []*raft.Core // nil, where one has stopped
	wire  []api.Post
	count int // of bodies, snapshots and tokens
	// Are the bytes of posts spoilt once they were heard? May the disk of each have an error?
	spoils  bool
	mayFail []bool
	seen
}

// begin opens so many cores, of which the first ones are voters.
func begin(t *testing.T, seed int64, o api.Options, voters, more, room int) *group {
	t.Helper()
	g := &group{t: t, r: rand.New(rand.NewSource(seed)), o: o, seen: unseen(voters + more)}
	g.o.Boot.Voters = plain(voters).Boot.Voters
	g.what = fmt.Sprintf("seed %d, %v, %d more", seed, g.o, more)
	g.cores, g.mayFail = make([]*raft.Core, voters+more), make([]bool, voters+more)
	for range g.cores {
		g.disks = append(g.disks, space(t, room))
	}
	for i := range g.cores {
		g.open(i, g.r.Uint64())
	}
	return g
}

func (g *group) fail(form string, args ...any) {
	g.t.Helper()
	g.t.Fatalf("%s: %s", fmt.Sprintf(form, args...), g.what)
}

// open opens one that has stopped.
func (g *group) open(i int, draw uint64) {
	g.t.Helper()
	c, e := raft.Open(g.disks[i], i, g.o, draw)
	if e != api.OK || c == nil {
		g.fail("P12.1: Open of %d: %v, %d", i, c, e)
	}
	if c.Role() != api.Follower || c.Leads() != -1 || c.Commit() != c.Mark().Index || c.ID() != i || c.Down() {
		g.fail("P12.1: %d is %d, leads %d, commit %d of %v", i, c.Role(), c.Leads(), c.Commit(), c.Mark())
	}
	if s, ok := g.states[i]; ok && c.State != s {
		g.fail("P12.2: %d comes up with %v, and had %v", i, c.State, s)
	}
	g.cores[i], g.clocks[i], g.commits[i] = c, g.span(draw), c.Commit()
	g.check(i)
}

// crash lets one stop, its disk keep what it likes of what wasn't synced.
func (g *group) crash(i int) {
	delete(g.states, i)
	if c := g.cores[i]; !c.Down() {
		g.states[i] = c.State
	}
	g.cores[i] = nil
	var keep []int
	for range g.disks[i].Names() {
		keep = append(keep, g.r.Intn(40)-5)
	}
	g.disks[i].Crash(keep...)
	g.mayFail[i] = false
}

// span is how many ticks a draw says.
func (g *group) span(draw uint64) int { return g.o.Least + int(draw%uint64(g.o.Least)) }

// after is behind a call that may have taken a core down.
func (g *group) after(i int, ps []api.Post, down bool) {
	g.t.Helper()
	c := g.cores[i]
	if c.Down() && !down && !g.mayFail[i] && g.disks[i].Free() > 1000 {
		g.fail("P12.2: %d is down, and its disk is well", i)
	}
	if c.Down() && len(ps) > 0 || down && !c.Down() {
		g.fail("P12.2: %d is down %t, then %t, and says %d", i, down, c.Down(), len(ps))
	}
	for _, p := range ps {
		if w, ok := raft.Tell(p.B); !ok || w.From != i || p.To == i || w.Term != c.State.Term {
			g.fail("P12.2: %d says %v to %d in %d", i, w, p.To, c.State.Term)
		}
	}
	g.wire = append(g.wire, ps...)
	g.check(i)
}

// tick lets a tick come to one: it stands just if its timer fires, it is a voter, and doesn't lead.
func (g *group) tick(i int, draw uint64) {
	g.t.Helper()
	c := g.cores[i]
	if c == nil {
		return
	}
	elder, role, down, votes := c.State, c.Role(), c.Down(), members.Votes(c.Conf(), i)
	g.clocks[i] = max(0, g.clocks[i]-1)
	g.after(i, c.Tick(draw), down)
	switch {
	case c.Down():
	case g.clocks[i] > 0 || role == api.Leader || !votes:
		if c.State != elder || c.Role() != role {
			g.fail("P12.3: %d stands: %v, %v, %d", i, elder, c.State, c.Role())
		}
	default:
		g.clocks[i] = g.span(draw)
		alone := len(c.Conf().Voters) == 1
		if c.State != (api.State{Term: elder.Term + 1, Vote: i}) || c.Role() == api.Follower || alone != (c.Role() == api.Leader) {
			g.fail("P12.3: %d doesn't stand: %v, %v, %d, alone %t", i, elder, c.State, c.Role(), alone)
		}
	}
}

// hear lets one hear a post of the group.
func (g *group) hear(i int, b []byte, draw uint64) {
	g.t.Helper()
	c := g.cores[i]
	if c == nil {
		return
	}
	elder, down := c.State, c.Down()
	var ps []api.Post
	var e api.Errno
	g.spoilt(b, func(b []byte) { ps, e = c.Hear(b, draw) })
	g.after(i, ps, down)
	if want := c.Down(); e != api.OK && e != api.ErrDown || (e == api.ErrDown) != want {
		g.fail("P12.2: Hear: %d, down %t", e, want)
	}
	if c.Down() {
		return
	}
	w, _ := raft.Tell(b)
	if w.Leads && w.Term == c.State.Term {
		g.clocks[i] = g.span(draw)
		if c.Leads() != w.From {
			g.fail("P12.4: %d knows %d, not %d", i, c.Leads(), w.From)
		}
	}
	if len(ps) == 1 && votes(ps[0]) {
		g.clocks[i] = g.span(draw)
		if c.State != (api.State{Term: w.Term, Vote: w.From}) || ps[0].To != w.From {
			g.fail("P12.2: %d votes for %d, and keeps %v", i, w.From, c.State)
		}
	} else if c.State != elder && c.Vote != -1 || c.State.Term < elder.Term {
		g.fail("P12.2: %d keeps %v behind %v, and votes for none", i, c.State, elder)
	}
}

// votes: is a post a vote for the one to whom it goes?
func votes(p api.Post) bool {
	w, _ := raft.Tell(p.B)
	return w.Votes
}

// propose proposes so many bodies that none else has.
func (g *group) propose(i, n int) api.Errno {
	g.t.Helper()
	c := g.cores[i]
	if c == nil {
		return api.ErrDown
	}
	var bs [][]byte
	for range n {
		g.count++
		bs = append(bs, fmt.Appendf(nil, "b%d", g.count))
	}
	down, role, last := c.Down(), c.Role(), c.Last().Index
	m, ps, e := c.Propose(bs...)
	if e == api.OK || c.Down() && !down {
		for _, b := range bs {
			g.bodies[string(b)] = 0
		}
	}
	g.after(i, ps, down)
	want, at := api.OK, api.Mark{}
	switch {
	case c.Down():
		want = api.ErrDown
	case role != api.Leader:
		want = api.ErrLead
	case n == 0:
		want = api.ErrArg
	default:
		at = api.Mark{Index: last + n, Term: c.State.Term}
	}
	if e != want || m != at {
		g.fail("P12.3: Propose: %v, %d, not %v, %d", m, e, at, want)
	}
	return e
}

// change changes the configuration.
func (g *group) change(i int, ch api.Change) api.Errno {
	g.t.Helper()
	c := g.cores[i]
	if c == nil {
		return api.ErrDown
	}
	down, role, last := c.Down(), c.Role(), c.Last().Index
	term, _ := c.Log.Term(c.Commit())
	busy := term != c.State.Term || confAt(c) > c.Commit()
	_, want := members.Next(c.Conf(), ch)
	m, ps, e := c.Change(ch)
	g.after(i, ps, down)
	switch {
	case c.Down():
		want = api.ErrDown
	case role != api.Leader:
		want = api.ErrLead
	case busy:
		want = api.ErrBusy
	}
	at := api.Mark{}
	if want == api.OK {
		at = api.Mark{Index: last + 1, Term: c.State.Term}
	}
	if e != want || m != at {
		g.fail("P12.3: Change: %v, %d, not %v, %d", m, e, at, want)
	}
	return e
}

// read asks for a read.
func (g *group) read(i int) api.Errno {
	g.t.Helper()
	c := g.cores[i]
	if c == nil {
		return api.ErrDown
	}
	g.count++
	down, role := c.Down(), c.Role()
	term, _ := c.Log.Term(c.Commit())
	busy := term != c.State.Term
	g.reads[g.count] = asked{i, g.top}
	ps, e := c.Read(g.count)
	want := api.OK
	switch {
	case down:
		want = api.ErrDown
	case role != api.Leader:
		want = api.ErrLead
	case busy:
		want = api.ErrBusy
	}
	if e != want {
		g.fail("P12.3: Read: %d, not %d", e, want)
	}
	if e != api.OK {
		delete(g.reads, g.count)
	}
	g.after(i, ps, down)
	return e
}

// compact puts a snapshot in the place of entries.
func (g *group) compact(i, index int) api.Errno {
	g.t.Helper()
	c := g.cores[i]
	if c == nil {
		return api.ErrDown
	}
	g.count++
	body := fmt.Sprintf("snapshot %d of %d", g.count, i)
	down, mark, commit := c.Down(), c.Mark().Index, c.Commit()
	term, _ := c.Log.Term(index)
	e := c.Compact(index, []byte(body))
	if e == api.OK || c.Down() && !down {
		m := api.Mark{Index: index, Term: term}
		g.snaps[m] = append(g.snaps[m], body)
	}
	g.after(i, nil, down)
	want := api.OK
	switch {
	case c.Down():
		want = api.ErrDown
	case index <= mark || index > commit:
		want = api.ErrArg
	}
	if e != want || e == api.OK && c.Mark() != (api.Mark{Index: index, Term: term}) {
		g.fail("P12.4: Compact: %d, not %d; mark %v", e, want, c.Mark())
	}
	return e
}
