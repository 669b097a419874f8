package raft_test

import (
	"testing"

	"echelon/api"
)

// wild is a step of whatever may happen.
func (g *group) wild() {
	g.t.Helper()
	i := g.r.Intn(len(g.cores))
	c := g.cores[i]
	switch k := g.r.Intn(100); {
	case k < 30:
		g.tick(i, g.r.Uint64())
	case k < 75:
		g.arrive()
	case k < 80:
		g.propose(i, g.r.Intn(4))
	case k < 84:
		g.change(i, api.Change{Do: g.r.Intn(4), ID: g.r.Intn(len(g.cores)+1) - 1})
	case k < 90:
		g.read(i)
	case k < 93 && c != nil:
		g.compact(i, c.Mark().Index+g.r.Intn(c.Commit()-c.Mark().Index+2))
	case k < 97 && c == nil:
		g.open(i, g.r.Uint64())
	case k < 94 || k < 98 && c != nil && c.Down():
		g.crash(i)
	case c != nil && k < 99:
		g.disks[i].Stop(g.r.Intn(12))
		g.mayFail[i] = true
	}
}

// arrive lets a post arrive: mostly one of the elder ones, some twice, some never.
func (g *group) arrive() {
	g.t.Helper()
	if len(g.wire) == 0 {
		return
	}
	k := g.r.Intn(min(len(g.wire), 12))
	if g.r.Intn(20) == 0 {
		k = g.r.Intn(len(g.wire))
	}
	p := g.wire[k]
	if g.r.Intn(8) > 0 {
		g.wire = append(g.wire[:k:k], g.wire[k+1:]...)
	}
	if g.r.Intn(12) > 0 {
		g.hear(p.To, p.B, g.r.Uint64())
	}
	if len(g.wire) > 300 {
		g.wire = g.wire[100:]
	}
}

// some are options for a group, right ones.
func some(seed int64, voters int) api.Options {
	n := int(seed)
	o := api.Options{Least: max(3, 3*voters-2) + n/7%9, Piece: 1 + n%30, Size: 1 + 7*n%90, Feed: 1 + n%4}
	o.Beat = 1 + n/3%((o.Least-1)/2)
	return o
}

// TestWild: whatever happens to a group of one to seven voters and up to two more, each sentence of P12.5 holds behind every step; and what there is to be seen does happen.
func TestWild(t *testing.T) {
	t.Parallel()
	leaders, agreed, snaps, confs, reads := 0, 0, 0, 0, 0
	for seed := range int64(600) {
		voters := 1 + int(seed%7)
		o := some(seed, voters)
		o.Least = max(3, o.Least-2*voters)
		o.Beat = min(o.Beat, (o.Least-1)/2)
		g := begin(t, seed, o, voters, int(seed/7%3), 1<<20)
		for range 2500 {
			g.wild()
		}
		leaders, agreed, snaps, reads = leaders+len(g.leaders), agreed+len(g.agreed), snaps+len(g.snaps), reads+g.fresh
		for _, e := range g.agreed {
			if e.Kind == api.KindConf {
				confs++
			}
		}
	}
	if leaders < 1000 || agreed < 5000 || snaps < 1000 || confs < 200 || reads < 1000 {
		t.Errorf("the groups did too little: %d leaders, %d entries, %d snapshots, %d configurations, %d reads", leaders, agreed, snaps, confs, reads)
	}
}

// TestWildSmall: so do groups whose disks have little room.
func TestWildSmall(t *testing.T) {
	t.Parallel()
	downs := 0
	for seed := range int64(300) {
		voters := 1 + int(seed%5)
		g := begin(t, seed, some(seed, voters), voters, int(seed/5%2), 100+int(seed*13%400))
		for range 1200 {
			g.wild()
			for _, c := range g.cores {
				if c != nil && c.Down() {
					downs++
				}
			}
		}
	}
	if downs < 1000 {
		t.Errorf("the disks had too much room: %d", downs)
	}
}
