package raft_test

import (
	"slices"
	"testing"

	"echelon/api"
	"echelon/members"
	"echelon/raft"
)

// told: is a post to one under way?
func (g *group) told(i int) bool {
	return slices.ContainsFunc(g.wire, func(p api.Post) bool { return p.To == i })
}

// TestTakenOut: who is taken out knows it once that is agreed, and not ahead of it; it stands no more, and isn't told any more.
func TestTakenOut(t *testing.T) {
	for seed := range int64(30) {
		g, draws, lead := calm(t, seed, some(seed, 3), 3, 0)
		out, other := (lead+1)%3, (lead+2)%3
		is(t, "P12.3: Change", g.change(lead, api.Change{Do: api.RemovePeer, ID: out}), api.OK)
		for range 4 * g.o.Least {
			g.round(only(draws, []int{lead, out}), inOrder)
		}
		if !members.Has(g.cores[out].Conf(), out) || g.cores[lead].Commit() == g.cores[lead].Last().Index {
			g.fail("P12.3: without a majority of what is left: %v, commit %d", g.cores[out].Conf(), g.cores[lead].Commit())
		}
		if g.cores[lead].Role() != api.Leader || g.cores[out].Leads() != lead {
			g.fail("P12.6: %d leads no more", lead)
		}
		var late []api.Post
		for range 4 * g.o.Least {
			g.round(draws, inOrder)
			for _, p := range g.wire {
				if w, _ := raft.Tell(p.B); w.From == out {
					late = append(late[:0], p)
				}
			}
		}
		if members.Has(g.cores[out].Conf(), out) || g.cores[out].Role() != api.Follower || g.leader(only(draws, []int{lead, other})) != lead {
			g.fail("P12.6: who was taken out doesn't know it, or %d leads no more: %v", lead, g.cores[out].Conf())
		}
		g.propose(lead, 3)
		for range 8 * g.o.Least {
			g.round(draws, inOrder)
			g.wire = append(g.wire, late...)
			if g.told(out) {
				g.fail("a post to %d, which was taken out, and knows it", out)
			}
		}
	}
}

// TestStranger: one that was taken out, and doesn't know it, stands again and again: who leads leads on, in its Term.
func TestStranger(t *testing.T) {
	for seed := range int64(30) {
		g, draws, lead := calm(t, seed, some(seed, 3), 3, 0)
		out, other := (lead+1)%3, (lead+2)%3
		two := only(draws, []int{lead, other})
		is(t, "P12.3: Change", g.change(lead, api.Change{Do: api.RemovePeer, ID: out}), api.OK)
		for range 2 * g.o.Least {
			g.round(two, inOrder)
			g.tick(out, draws[out])
		}
		short := seed%2 == 0
		if short {
			g.compact(lead, g.cores[lead].Commit())
		}
		term := g.cores[lead].State.Term
		way := int(seed/2) % ways
		for range 20 * g.o.Least {
			g.round(draws, way)
			if g.leader(two) != lead || g.cores[lead].State.Term != term {
				g.fail("P12.6: %d is disturbed; way %d", lead, way)
			}
			if short && g.told(out) {
				g.fail("a post to %d, of which the log tells nothing", out)
			}
		}
		if g.cores[out].State.Term < 3 {
			g.fail("P12.3: it doesn't stand")
		}
		g.agrees(lead, two, way)
	}
}

// TestStrangerIsNeeded: but where none leads, one that isn't a voter here, and has all that is agreed, is voted for.
func TestStrangerIsNeeded(t *testing.T) {
	for seed := range int64(20) {
		g, draws, lead := calm(t, seed, some(seed, 3), 2, 1)
		other := 1 - lead
		is(t, "P12.3: Change", g.change(lead, api.Change{Do: api.AddLearner, ID: 2}), api.OK)
		for range 30 {
			g.round(draws, inOrder)
		}
		is(t, "P12.3: Change", g.change(lead, api.Change{Do: api.Promote, ID: 2}), api.OK)
		for range 30 {
			g.round(only(draws, []int{lead, 2}), inOrder)
		}
		if members.Votes(g.cores[other].Conf(), 2) || g.cores[2].Commit() != g.cores[lead].Last().Index {
			g.fail("P12.3: %d has %v, and 2 %d of %d", other, g.cores[other].Conf(), g.cores[2].Commit(), g.cores[lead].Last().Index)
		}
		// The other stands by a longer span: it doesn't know that 2 would have to hear it, so its Terms would stay ahead.
		draws[2], draws[other] = 0, uint64(g.o.Least-1)
		if next := g.lead(only(draws, []int{other, 2}), inOrder); next != 2 {
			g.fail("P12.5: %d leads", next)
		}
	}
}

// TestLeaderTakenOut: who leads and is taken out leads till that is agreed, without counting itself.
func TestLeaderTakenOut(t *testing.T) {
	for seed := range int64(30) {
		g, draws, lead := calm(t, seed, some(seed, 3), 3, 0)
		one, other := (lead+1)%3, (lead+2)%3
		is(t, "P12.3: Change", g.change(lead, api.Change{Do: api.RemovePeer, ID: lead}), api.OK)
		at := g.cores[lead].Last().Index
		for range 3 * g.o.Least {
			g.round(only(draws, []int{lead, one}), inOrder)
		}
		if g.cores[lead].Role() != api.Leader || g.top >= at {
			g.fail("P12.3: it is %d, and %d of %d are agreed", g.cores[lead].Role(), g.top, at)
		}
		is(t, "P12.3: Propose", g.propose(lead, 1), api.OK)
		is(t, "P12.3: Read", g.read(lead), api.OK)
		for k := 0; g.top < at; k++ {
			if k > 20 {
				g.fail("P12.6: it isn't agreed")
			}
			g.round(draws, inOrder)
		}
		if g.cores[lead].Role() != api.Follower || g.cores[lead].Leads() != -1 {
			g.fail("P12.6: it is %d, and knows %d", g.cores[lead].Role(), g.cores[lead].Leads())
		}
		next := g.lead(only(draws, []int{one, other}), among)
		g.agrees(next, only(draws, []int{one, other}), among)
	}
}
