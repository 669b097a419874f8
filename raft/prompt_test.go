package raft_test

import (
	"slices"
	"testing"

	"echelon/api"
)

// slow are options by which a leader says nothing of itself for long.
func slow() api.Options {
	return api.Options{Least: 60, Beat: 29, Piece: 5, Size: 100, Feed: 1}
}

// TestPrompt: what is proposed is agreed by all without waiting for the leader's next beat, whichever comes first; and nobody says more than is needed.
func TestPrompt(t *testing.T) {
	for seed := range int64(60) {
		way := int(seed) % ways
		g, draws, lead := calm(t, seed, slow(), 3, 0)
		// Just behind a beat there is none for long.
		for len(g.wire) == 0 {
			g.round(draws, inOrder)
		}
		for len(g.wire) > 0 {
			g.round(draws, inOrder)
		}
		n := 1 + int(seed/5%3)
		g.propose(lead, n)
		posts, rounds := 0, 0
		for ; len(g.wire) > 0; rounds++ {
			posts += len(g.wire)
			g.round(draws, way)
		}
		if g.leader(draws) != lead || rounds > 4*n+6 {
			g.fail("P12.6: within %d rounds not all have all; way %d", rounds, way)
		}
		// Each entry is told to two, who say so; and they are told once that all is agreed, and say so.
		if posts > 4*n+4 {
			g.fail("%d posts for %d entries; way %d", posts, n, way)
		}
	}
}

// TestCatchesUp: one that lacks some of the entries, or a snapshot, gets what it lacks, and not all that it has.
func TestCatchesUp(t *testing.T) {
	for seed := range int64(40) {
		g, draws, lead := calm(t, seed, slow(), 3, 0)
		off := (lead + 1) % 3
		rest := only(draws, []int{lead, (lead + 2) % 3})
		g.propose(lead, 40)
		for range 200 {
			g.round(draws, inOrder)
		}
		g.propose(lead, 3)
		for range 20 {
			g.round(rest, inOrder)
		}
		if seed%2 == 0 {
			g.compact(lead, g.cores[lead].Commit()-1)
		}
		// Another Term comes, whose leader doesn't know who lacks what.
		next := (lead + 2) % 3
		g.wire = nil
		for g.cores[next].Role() == api.Follower {
			g.tick(next, draws[next])
		}
		for range 20 {
			g.round(rest, inOrder)
		}
		if g.leader(rest) != next {
			g.fail("P12.6: %d doesn't lead", next)
		}
		g.wire = nil
		rounds := 0
		for g.cores[off].Commit() < g.cores[next].Commit() && rounds < 200 {
			g.round(draws, inOrder)
			rounds++
		}
		// The next beat, what it lacks by two rounds each, and some rounds to find what that is.
		if rounds > g.o.Beat+2*4+10 {
			g.fail("P12.6: %d rounds for 4 entries", rounds)
		}
	}
}

// TestLostReply: one that has agreed entries, of which the leader heard nothing, and put a snapshot in their place, is told what comes next.
func TestLostReply(t *testing.T) {
	for seed := range int64(20) {
		o := some(seed, 3)
		o.Feed = 9
		g, draws, lead := calm(t, seed, o, 3, 0)
		off, other := (lead+1)%3, (lead+2)%3
		g.propose(lead, 3)
		for range 3 {
			g.round(only(draws, []int{lead, other}), inOrder)
		}
		for g.cores[off].Commit() < g.cores[lead].Commit() {
			g.wire = nil
			for g.wire == nil {
				g.tick(lead, draws[lead])
			}
			// What it says of an entry that it lacks is heard, what it says of those that come isn't.
			for _, p := range g.wire {
				if p.To == off {
					g.hear(off, p.B, draws[off])
				}
			}
			said := g.wire[len(g.wire)-1]
			g.wire = nil
			g.hear(lead, said.B, draws[lead])
			for _, p := range g.wire {
				if p.To == off {
					g.hear(off, p.B, draws[off])
				}
			}
		}
		g.wire = nil
		is(t, "P12.4: Compact", g.compact(off, g.cores[off].Commit()), api.OK)
		for range 2*g.o.Beat + 8 {
			g.round(draws, inOrder)
		}
		g.propose(lead, 1)
		for range 14 {
			g.round(draws, inOrder)
		}
		if g.leader(draws) != lead {
			g.fail("P12.6: it has %d of %d", g.cores[off].Commit(), g.cores[lead].Commit())
		}
	}
}

// TestDoubled: where each post comes twice, and one lacks much, the posts don't grow without end.
func TestDoubled(t *testing.T) {
	for seed := range int64(20) {
		o := some(seed, 3)
		o.Feed = 1
		g, draws, lead := calm(t, seed, o, 3, 0)
		g.propose(lead, 40)
		for range 200 {
			g.round(draws, mixed)
			if len(g.wire) > 60 {
				g.fail("%d posts are under way", len(g.wire))
			}
			g.wire = append(g.wire, g.wire...)
		}
		if g.leader(draws) != lead {
			g.fail("P12.6: not all have all")
		}
	}
}

// TestSilent: one that says nothing isn't told the same entries again and again.
func TestSilent(t *testing.T) {
	for seed := range int64(20) {
		o := some(seed, 3)
		o.Feed = 1 << 20
		g, draws, lead := calm(t, seed, o, 3, 0)
		off := (lead + 1) % 3
		size := 0
		for range 200 {
			g.propose(lead, 3)
			g.round(only(draws, []int{lead, (lead + 2) % 3}), inOrder)
			for _, p := range g.wire {
				if p.To == off {
					size += len(p.B)
				}
			}
		}
		if size > 200*30 {
			g.fail("%d bytes for one that says nothing", size)
		}
	}
}

// TestVotesAgain: a vote that may be lost is said again, to the same one, in its Term, and to no other, also by one that is opened anew.
func TestVotesAgain(t *testing.T) {
	for seed := range int64(10) {
		g := begin(t, seed, some(seed, 3), 3, 0, 1<<20)
		for _, i := range []int{0, 1} {
			for g.cores[i].Role() == api.Follower {
				g.tick(i, g.r.Uint64())
			}
		}
		asked := g.wire
		for k, want := range []bool{true, true, false, true} {
			if k == 3 {
				g.crash(2)
				g.open(2, 0)
			}
			b := asked[1].B // of 0 to 2
			if k == 2 {
				b = asked[3].B // of 1 to 2
			}
			g.wire = nil
			g.hear(2, b, g.r.Uint64())
			if len(g.wire) != 1 || votes(g.wire[0]) != want {
				g.fail("P12.3: ask %d: it votes %t, not %t", k, !want, want)
			}
		}
	}
}

// TestLearnerPrompt: a learner that comes in gets all that there is, a snapshot in pieces and entries behind it, without waiting for the leader's next beat.
func TestLearnerPrompt(t *testing.T) {
	for seed := range int64(40) {
		g, draws, lead := calm(t, seed, slow(), 2, 1)
		n := int(seed % 5)
		g.propose(lead, 3+n)
		for range 40 {
			g.round(draws, inOrder)
		}
		is(t, "P12.4: Compact", g.compact(lead, g.cores[lead].Commit()-n), api.OK)
		for range seed / 2 {
			g.round(draws, inOrder)
		}
		is(t, "P12.3: Change", g.change(lead, api.Change{Do: api.AddLearner, ID: 2}), api.OK)
		rounds := 0
		for g.cores[2].Commit() < g.cores[lead].Last().Index && rounds < 90 {
			g.round(draws, int(seed)%ways)
			rounds++
		}
		if rounds > 2*(n+1)+10 {
			g.fail("P12.6: %d rounds for a snapshot and %d entries", rounds, n+1)
		}
	}
}

// elect lets one stand, and lead by the votes of others; none hears of what it lays then.
func (g *group) elect(i int, voters ...int) {
	g.t.Helper()
	term := 0
	for _, c := range g.cores {
		term = max(term, c.State.Term)
	}
	if g.cores[i].Role() == api.Leader {
		g.crash(i)
		g.open(i, 0)
	}
	g.wire = nil
	for g.cores[i].State.Term <= term {
		g.wire = nil
		g.tick(i, 0)
	}
	g.pass(i, voters...)
	if g.cores[i].Role() != api.Leader {
		g.fail("P12.3: %d doesn't lead", i)
	}
}

// pass lets others hear what one said, and that one hear what they say; the rest is lost.
func (g *group) pass(i int, others ...int) {
	g.t.Helper()
	said := g.wire
	g.wire = nil
	for _, p := range said {
		if slices.Contains(others, p.To) {
			g.hear(p.To, p.B, 0)
		}
	}
	back := g.wire
	g.wire = nil
	for _, p := range back {
		if p.To == i {
			g.hear(i, p.B, 0)
		}
	}
}

// TestElderTerm: an entry of an elder Term that most have isn't agreed by that: a leader that lacks it may still come, and lay another one in its place.
func TestElderTerm(t *testing.T) {
	o := plain(5)
	o.Feed = 1
	g := begin(t, 1, o, 5, 0, 1<<20)
	g.elect(0, 1, 2)
	for range 8 {
		g.wire = nil
		for g.wire == nil {
			g.tick(0, 0)
		}
		for range 4 {
			g.pass(0, 1, 2, 3, 4)
		}
	}
	if g.top != 1 {
		g.fail("P12.5: %d entries are agreed", g.top)
	}
	g.wire = nil
	g.propose(0, 1)
	g.pass(0, 1)
	g.elect(4, 2, 3)
	g.elect(0, 1, 2, 3)
	// Now 1, which has it, says so, and 2 gets the entry of the first Term, and not the one behind it.
	g.pass(0, 1, 2)
	for range 3 {
		g.wire = slices.DeleteFunc(g.wire, func(p api.Post) bool { return p.To != 2 })
		if g.cores[2].Last().Index < 2 {
			g.pass(0, 2)
		}
	}
	if g.cores[2].Last() != (api.Mark{Index: 2, Term: 1}) || g.cores[0].Commit() > 1 {
		g.fail("P12.5: 2 has %v, and %d are agreed", g.cores[2].Last(), g.cores[0].Commit())
	}
	g.elect(4, 2, 3)
	for range 6 {
		g.pass(4, 2, 3)
	}
	if e := g.agreed[2]; e.Kind != api.KindNone || e.Term != 2 {
		g.fail("P12.5: %v is agreed", e)
	}
}
