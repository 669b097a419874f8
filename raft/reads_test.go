package raft_test

import (
	"testing"

	"echelon/api"
	"echelon/members"
)

// calm is a calm group in which one leads.
func calm(t *testing.T, seed int64, o api.Options, voters, more int) (*group, map[int]uint64, int) {
	t.Helper()
	g := begin(t, seed, o, voters, more, 1<<20)
	draws := g.apart(plain(voters + more).Boot.Voters)
	if draws == nil {
		g.fail("there is no room for so many spans")
	}
	lead := g.lead(only(draws, members.All(g.o.Boot)), inOrder)
	g.wire = nil
	return g, draws, lead
}

// TestReadRounds: a read is told once most have heard the leader behind it, and not by what was said ahead of it.
func TestReadRounds(t *testing.T) {
	for seed := range int64(20) {
		o := some(seed, 7)
		o.Boot.Learners = []int{5, 6}
		g, draws, lead := calm(t, seed, o, 5, 2)
		for g.wire == nil {
			g.tick(lead, 0)
		}
		early := g.wire
		g.wire = nil
		is(t, "P12.3: Read", g.read(lead), api.OK)
		late := g.wire
		told := g.fresh
		// hear lets some hear those posts, and the leader hears what they say.
		hear := func(posts []api.Post, ids ...int) {
			g.wire = nil
			for _, p := range posts {
				for _, i := range ids {
					if p.To == i {
						g.hear(i, p.B, draws[i])
					}
				}
			}
			for _, p := range g.wire {
				g.hear(lead, p.B, 0)
				g.hear(lead, p.B, 0)
			}
		}
		var four []int
		for i := range 5 {
			if i != lead {
				four = append(four, i)
			}
		}
		hear(early, four...)
		hear(late, 5, 6)
		hear(late, four[0])
		hear(late, four[0])
		hear(early, four[0])
		if g.fresh != told {
			g.fail("P12.3: it is told early")
		}
		hear(late, four[2])
		if g.fresh != told+1 {
			g.fail("P12.3: it isn't told")
		}
		hear(late, four...)
		if g.fresh != told+1 {
			g.fail("P12.3: it is told twice")
		}
	}
}

// TestReadOfOld: one that leads no more, and doesn't know it, tells no read; nor does it later.
func TestReadOfOld(t *testing.T) {
	for seed := range int64(20) {
		g, draws, old := calm(t, seed, some(seed, 3), 3, 0)
		others := only(draws, []int{(old + 1) % 3, (old + 2) % 3})
		next := g.lead(others, among)
		g.propose(next, 3)
		for range 30 {
			g.round(others, inOrder)
		}
		g.wire = nil
		told := g.fresh
		is(t, "P12.3: Read", g.read(old), api.OK)
		g.lead(draws, inOrder)
		if g.cores[old].Role() != api.Leader && g.fresh != told {
			g.fail("P12.3: an old leader told a read")
		}
		if len(g.cores[old].Reads()) != 0 {
			g.fail("P12.3: an old leader tells a read later")
		}
	}
}

// TestBusy: ahead of the first entry of its Term that is agreed, a leader refuses reads and changes, though it knows of others that are; behind it, it doesn't.
func TestBusy(t *testing.T) {
	add := api.Change{Do: api.AddLearner, ID: 3}
	for seed := range int64(20) {
		g, draws, old := calm(t, seed, some(seed, 4), 3, 1)
		g.propose(old, 2)
		for range 30 {
			g.round(draws, inOrder)
		}
		delete(draws, 3)
		others := only(draws, []int{(old + 1) % 3, (old + 2) % 3})
		lead := -1
		for lead < 0 {
			g.round(others, inOrder)
			for i := range others {
				if g.cores[i].Role() == api.Leader {
					lead = i
				}
			}
		}
		is(t, "P12.3: Read ahead of it", g.read(lead), api.ErrBusy)
		is(t, "P12.3: Change ahead of it", g.change(lead, add), api.ErrBusy)
		is(t, "P12.3: a Change that may not be, ahead of it", g.change(lead, api.Change{}), api.ErrBusy)
		for g.cores[lead].Commit() < g.cores[lead].Last().Index {
			g.round(others, inOrder)
		}
		is(t, "P12.3: Read", g.read(lead), api.OK)
		g.propose(lead, 1)
		is(t, "P12.3: Change", g.change(lead, add), api.OK)
		is(t, "P12.3: Change while one stands", g.change(lead, api.Change{Do: api.Promote, ID: 3}), api.ErrBusy)
		is(t, "P12.3: Read while one stands", g.read(lead), api.OK)
		for range 20 {
			g.round(others, inOrder)
		}
		is(t, "P12.3: a Change that may not be", g.change(lead, add), api.ErrConf)
		is(t, "P12.3: a Change that may not be", g.change(lead, api.Change{Do: 4, ID: 3}), api.ErrArg)
		is(t, "P12.3: Change behind one", g.change(lead, api.Change{Do: api.Promote, ID: 3}), api.OK)
	}
	c, _ := leading(t, plain(1))
	_, _, e := c.Change(api.Change{Do: api.RemovePeer, ID: 0})
	is(t, "P12.3: Change of the only voter", e, api.ErrLast)
}
