package raft_test

import (
	"slices"
	"testing"

	"echelon/api"
	"echelon/members"
	"echelon/raft"
	"echelon/shelf"
)

// cut is a calm group of three of which one hears nothing of what comes: entries, changes, and a snapshot in their place. It answers who leads, and who was cut off.
func cut(t *testing.T, seed int64, o api.Options, behind int) (*group, map[int]uint64, int, int) {
	t.Helper()
	g := begin(t, seed, o, 3, 1, 1<<20)
	draws := g.apart([]int{0, 1, 2})
	lead := g.lead(draws, inOrder)
	off := (lead + 1) % 3
	rest := only(draws, []int{lead, (lead + 2) % 3})
	g.propose(lead, 4)
	g.wire = nil
	g.agrees(lead, rest, inOrder)
	if g.change(lead, api.Change{Do: api.AddLearner, ID: 3}) != api.OK {
		g.fail("P12.3: Change")
	}
	g.agrees(lead, rest, inOrder)
	g.compact(lead, g.cores[lead].Commit())
	if behind > 0 {
		g.propose(lead, behind)
	}
	for range 10 + 4*behind {
		g.round(rest, inOrder)
	}
	g.wire = nil
	return g, draws, lead, off
}

// TestSnapshotInPieces: one that lacks what is gone into a snapshot gets that, however many pieces it takes and in whichever order they come, some twice; and then what is behind it.
func TestSnapshotInPieces(t *testing.T) {
	for seed := range int64(60) {
		o := some(seed, 3)
		o.Piece = []int{1, 2, 7, 30, 1 << 20}[seed%5]
		g, draws, lead, off := cut(t, seed, o, int(seed%4))
		way := int(seed/5) % ways
		pieces := 0
		for range 20*o.Least + 4*len(log(g.cores[lead])) {
			g.round(draws, way)
			for _, p := range g.wire {
				if p.B[4] == 5 {
					pieces++
				}
				if seed%2 == 0 && g.r.Intn(4) == 0 {
					g.wire = append(g.wire, p)
				}
			}
		}
		all := g.leader(draws)
		if all < 0 {
			g.fail("P12.6: not all have all")
		}
		want, _ := g.cores[lead].Newest()
		x, ok := g.cores[off].Newest()
		if !ok || x.Mark != want.Mark || string(x.Body) != string(want.Body) || !members.Has(g.cores[off].Conf(), 3) || len(log(g.cores[off])) != g.cores[all].Last().Index-want.Index {
			g.fail("P12.5: it has %v, %t, not %v, and behind it %v", x, ok, want, log(g.cores[off]))
		}
		if all := len(shelf.Bytes(want)); way == inOrder && seed%2 == 1 && pieces != (all+o.Piece-1)/o.Piece {
			g.fail("%d pieces were sent, of %d bytes each, for %d bytes", pieces, o.Piece, all)
		}
	}
}

// pieces lets a leader tick till it sends a snapshot to one, and answers all that it says to that one then.
func (g *group) pieces(lead, off int, draws map[int]uint64) [][]byte {
	g.t.Helper()
	for range 20 * g.o.Least {
		g.round(only(draws, []int{lead, off}), inOrder)
		var out [][]byte
		for _, p := range g.wire {
			if w, _ := raft.Tell(p.B); p.To == off && w.Leads && p.B[4] == 5 {
				out = append(out, p.B)
			}
		}
		if len(out) > 0 {
			g.wire = nil
			return out
		}
	}
	g.fail("P12.6: no snapshot is sent")
	return nil
}

// TestSnapshotTwice: pieces of two snapshots of one Index, by two leaders: the later one's comes whole, though some of the elder one's are there.
func TestSnapshotTwice(t *testing.T) {
	for seed := range int64(20) {
		o := some(seed, 3)
		o.Piece = 5
		g, draws, lead, off := cut(t, seed, o, 0)
		other := 3 - lead - off
		is(t, "P12.4: Compact", g.compact(other, g.cores[lead].Mark().Index), api.OK)
		first := g.pieces(lead, off, draws)
		for _, b := range first[:len(first)-1] {
			g.hear(off, b, 0)
		}
		g.wire = nil
		for g.cores[other].Role() != api.Leader {
			for k := range g.clocks {
				if k != other && g.clocks[k] < 2 {
					g.hear(k, g.calls(lead, k), draws[k])
				}
			}
			g.round(only(draws, []int{other, off}), inOrder)
			if len(g.wire) > 0 && g.cores[lead].State.Term < g.cores[other].State.Term {
				g.round(draws, inOrder)
			}
		}
		g.hear(off, first[len(first)-1], 0)
		last := g.lead(draws, mixed)
		want, _ := g.cores[last].Newest()
		if x, _ := g.cores[off].Newest(); x.Mark != want.Mark {
			g.fail("P12.6: it has %v, not %v", x, want)
		}
	}
}

// calls is some post by which one that leads keeps another from standing.
func (g *group) calls(lead, to int) []byte {
	g.t.Helper()
	elder := g.wire
	g.wire = nil
	for g.wire == nil {
		g.tick(lead, 0)
	}
	k := slices.IndexFunc(g.wire, func(p api.Post) bool { return p.To == to })
	b := g.wire[max(k, 0)].B
	g.wire = elder
	return b
}

// TestSnapshotNewer: while the pieces of one come, there is a newer one: it comes, and late pieces of the elder do no harm.
func TestSnapshotNewer(t *testing.T) {
	for seed := range int64(20) {
		o := some(seed, 3)
		o.Piece = 5
		g, draws, lead, off := cut(t, seed, o, 3)
		first := g.pieces(lead, off, draws)
		for _, b := range first[:len(first)-1] {
			g.hear(off, b, 0)
		}
		g.wire = nil
		is(t, "P12.4: Compact", g.compact(lead, g.cores[lead].Commit()), api.OK)
		second := g.pieces(lead, off, draws)
		for i, b := range second {
			if at := g.cores[off].Mark().Index; at != 0 {
				g.fail("P12.5: with %d of %d pieces it has %d", i, len(second), at)
			}
			g.hear(off, b, 0)
			g.hear(off, first[i%len(first)], 0)
		}
		for _, b := range first {
			g.hear(off, b, 0)
		}
		if g.cores[off].Mark() != g.cores[lead].Mark() || g.cores[off].Commit() != g.cores[lead].Mark().Index {
			g.fail("P12.5: it has %v, not %v", g.cores[off].Mark(), g.cores[lead].Mark())
		}
		g.lead(draws, mixed)
	}
}

// TestSnapshotLossy: where few of the pieces come at a time, those that did needn't come again.
func TestSnapshotLossy(t *testing.T) {
	for seed := range int64(20) {
		o := some(seed, 3)
		o.Piece, o.Beat, o.Least = 3, 1, 12
		g, draws, lead, off := cut(t, seed, o, 0)
		for n := 0; g.cores[off].Mark().Index == 0; n++ {
			if n > 200 {
				g.fail("it never has it")
			}
			g.round(draws, inOrder)
			few := 0
			g.wire = slices.DeleteFunc(g.wire, func(p api.Post) bool {
				if p.To == off {
					few++
				}
				return p.To == off && few > 4
			})
		}
		if g.cores[off].Mark() != g.cores[lead].Mark() {
			g.fail("P12.5: it has %v", g.cores[off].Mark())
		}
	}
}

// TestSnapshotNotNeeded: pieces of a snapshot whose place is in its log already: nothing is put in the place of entries, but they are agreed.
func TestSnapshotNotNeeded(t *testing.T) {
	g, draws, lead, off := cut(t, 2, plain(3), 2)
	pieces := g.pieces(lead, off, draws)
	other := 3 - lead - off
	all := log(g.cores[other])
	for _, b := range pieces {
		g.hear(other, b, draws[other])
	}
	if g.cores[other].Mark().Index != 0 || len(log(g.cores[other])) != len(all) || g.cores[other].Commit() < g.cores[lead].Mark().Index {
		g.fail("P12.5: it has %v, %v", g.cores[other].Mark(), log(g.cores[other]))
	}
}
