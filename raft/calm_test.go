package raft_test

import (
	"maps"
	"slices"
	"testing"

	"echelon/api"
	"echelon/members"
)

// The ways in which the ticks and posts of a round come.
const (
	inOrder = iota // all ticks, then all posts
	mixed          // all ticks, then all posts, each in any order
	among          // in any order
	soon           // so, and some posts within their own round
	behind         // all posts, then all ticks
	ways
)

// round lets each of these tick once, and all posts of the round before arrive. Each has one draw.
func (g *group) round(draws map[int]uint64, way int) {
	g.t.Helper()
	hear := func(p api.Post) {
		if draw, ok := draws[p.To]; ok {
			g.hear(p.To, p.B, draw)
		}
	}
	var ticks, posts []func()
	for _, i := range slices.Sorted(maps.Keys(draws)) {
		ticks = append(ticks, func() { g.tick(i, draws[i]) })
	}
	for _, p := range g.wire {
		posts = append(posts, func() { hear(p) })
	}
	g.wire = nil
	if way == mixed {
		g.shuffle(ticks)
		g.shuffle(posts)
	}
	steps := append(ticks, posts...)
	switch way {
	case among, soon:
		g.shuffle(steps)
	case behind:
		steps = append(steps[len(draws):], steps[:len(draws)]...)
	}
	for _, do := range steps {
		do()
		for way == soon && len(g.wire) > 0 && g.r.Intn(2) == 0 {
			k := g.r.Intn(len(g.wire))
			p := g.wire[k]
			g.wire = slices.Delete(g.wire, k, k+1)
			hear(p)
		}
	}
}

func (g *group) shuffle(steps []func()) {
	g.r.Shuffle(len(steps), func(i, j int) { steps[i], steps[j] = steps[j], steps[i] })
}

// rouse opens all that have stopped, or are down; nothing is under way.
func (g *group) rouse() {
	g.t.Helper()
	for i, c := range g.cores {
		g.disks[i].Stop(-1)
		g.mayFail[i] = false
		if c != nil && c.Down() {
			g.crash(i)
		}
		if g.cores[i] == nil {
			g.open(i, g.r.Uint64())
		}
	}
	g.wire = nil
}

// steady are some who are voters by all configurations that a log has, and a majority of each; none, if there aren't such.
func (g *group) steady() []int {
	all := []api.Conf{g.o.Boot}
	for _, c := range g.cores {
		all = append(all, c.Conf())
		if x, ok := c.Newest(); ok {
			conf, _ := members.Parse(x.Conf)
			all = append(all, conf)
		}
		for _, e := range log(c) {
			if e.Kind == api.KindConf {
				conf, _ := members.Parse(e.Body)
				all = append(all, conf)
			}
		}
	}
	var ids []int
	for i := range g.cores {
		if !slices.ContainsFunc(all, func(c api.Conf) bool { return !members.Votes(c, i) }) {
			ids = append(ids, i)
		}
	}
	few := func(ids []int) bool {
		return slices.ContainsFunc(all, func(c api.Conf) bool { return !members.Majority(c, ids...) })
	}
	if few(ids) {
		return nil
	}
	for range 3 {
		k := g.r.Intn(len(ids))
		if fewer := slices.Concat(ids[:k], ids[k+1:]); !few(fewer) {
			ids = fewer
		}
	}
	return ids
}

// apart gives each of these a draw, their spans 3 ticks or more apart; none, if there is no room for that.
func (g *group) apart(ids []int) map[int]uint64 {
	loose := g.o.Least - 2*(len(ids)-1)
	if loose < len(ids) {
		return nil
	}
	spans := g.r.Perm(loose)[:len(ids)]
	slices.Sort(spans)
	draws := map[int]uint64{}
	for k, at := range g.r.Perm(len(ids)) {
		draws[ids[at]] = uint64(g.o.Least*g.r.Intn(9) + spans[k] + 2*k)
	}
	return draws
}

// leader is who leads of these, if one alone does, and all know it, and have as agreed all that it has; -1 else.
func (g *group) leader(draws map[int]uint64) int {
	lead := -1
	for i := range draws {
		if g.cores[i].Role() == api.Leader && lead >= 0 {
			return -1
		}
		if g.cores[i].Role() == api.Leader {
			lead = i
		}
	}
	for i := range draws {
		if c := g.cores[i]; lead < 0 || c.Leads() != lead || c.Commit() != g.cores[lead].Last().Index || c.Last() != g.cores[lead].Last() {
			return -1
		}
	}
	return lead
}

// entries is how many the longest log has.
func (g *group) entries() int {
	n := 0
	for _, c := range g.cores {
		n = max(n, len(log(c)))
	}
	return n
}

// lead lets it be calm, till one is to lead, and answers who does; it stays leader.
func (g *group) lead(draws map[int]uint64, way int) int {
	g.t.Helper()
	for range 20*g.o.Least + 4*g.entries() {
		g.round(draws, way)
	}
	lead := g.leader(draws)
	if lead < 0 {
		for i, c := range g.cores {
			g.t.Logf("%d: %d, commit %d, last %v, %v", i, c.Role(), c.Commit(), c.Last(), c.State)
		}
		g.fail("P12.6: none leads of %v, or not all is agreed; way %d", draws, way)
	}
	for range 5 * g.o.Least {
		g.round(draws, way)
		if g.leader(draws) != lead {
			g.fail("P12.6: %d doesn't stay leader; way %d", lead, way)
		}
		if len(g.wire) > 3*len(g.cores) {
			g.fail("there are %d posts, and nothing to be told", len(g.wire))
		}
	}
	return lead
}

// agrees: what is proposed then is agreed by all, and a read is told.
func (g *group) agrees(lead int, draws map[int]uint64, way int) {
	g.t.Helper()
	n := 1 + g.r.Intn(12)
	g.propose(lead, n)
	want := g.cores[lead].Last().Index
	g.read(lead)
	for range 10 + 4*n {
		g.round(draws, way)
	}
	for i := range draws {
		if g.cores[i].Commit() != want || g.leader(draws) != lead {
			g.fail("P12.6: %d has %d of %d proposed entries; way %d", i, g.cores[i].Commit(), want, way)
		}
	}
	if a, ok := g.reads[g.count]; ok {
		g.fail("P12.3: a read of %v isn't told; way %d", a, way)
	}
}

// TestCalm: whatever happened to a group, once a majority is up and it is calm, one leads, and all agree.
func TestCalm(t *testing.T) {
	t.Parallel()
	calm := 0
	for seed := range int64(420) {
		voters := 1 + int(seed%7)
		g := begin(t, seed, some(seed, voters), voters, int(seed/3%2), 1<<20)
		for range g.r.Intn(1500) {
			g.wild()
		}
		g.rouse()
		ids := g.steady()
		draws := g.apart(ids)
		if ids == nil || draws == nil {
			continue
		}
		calm++
		way := int(seed/5) % ways
		lead := g.lead(draws, way)
		g.agrees(lead, draws, way)
	}
	if calm < 300 {
		t.Errorf("only %d groups were calm", calm)
	}
}

// stale lets each of these lead, one behind the other, and none of the others hear of what it has: the later one leads, the newer is its log.
func (g *group) stale(ids ...int) {
	g.t.Helper()
	for _, i := range ids {
		for g.cores[i].Role() == api.Follower {
			g.tick(i, g.r.Uint64())
		}
		for g.cores[i].Role() == api.Candidate {
			now := g.wire
			g.wire = nil
			for _, p := range now {
				g.hear(p.To, p.B, g.r.Uint64())
			}
		}
		g.propose(i, g.r.Intn(4))
		g.wire = nil
	}
}

// TestCalmStale: of a bare majority all must vote for the one whose log is the newest, however often the others stand, and though its span is the greatest.
func TestCalmStale(t *testing.T) {
	t.Parallel()
	for seed := range int64(450) {
		voters := 3 + 2*int(seed%3)
		most := voters/2 + 1
		o := api.Options{Least: max(3*most-2, 4) + int(seed/3)%4, Beat: 1, Piece: 10, Size: 1000, Feed: 1 + int(seed%3)}
		g := begin(t, seed, o, voters, 0, 1<<20)
		ids := plain(most).Boot.Voters
		g.stale(ids...)
		for _, i := range ids {
			g.crash(i)
			g.open(i, g.r.Uint64())
		}
		draws := g.apart(ids)
		if draws == nil {
			continue
		}
		newest := most - 1
		for i := range newest {
			if g.r.Intn(2) == 0 && g.span(draws[i]) > g.span(draws[newest]) {
				draws[i], draws[newest] = draws[newest], draws[i]
			}
		}
		for _, i := range ids {
			for range g.r.Intn(o.Least - 1) {
				g.tick(i, draws[i])
			}
		}
		way := int(seed/5) % ways
		if lead := g.lead(draws, way); lead != newest {
			g.fail("P12.5: %d leads, and %d alone has the newest log", lead, newest)
		}
	}
}

// TestCalmChange: a leader changes the configuration, in calm: the change is agreed, and all of it have all; one that was taken out leads no more.
func TestCalmChange(t *testing.T) {
	t.Parallel()
	did, gone := 0, 0
	for seed := range int64(300) {
		voters := 1 + int(seed%4)
		o := some(seed, voters+2)
		g := begin(t, seed, o, voters, 2, 1<<20)
		for range g.r.Intn(1500) {
			g.wild()
		}
		g.rouse()
		ids := g.steady()
		all := g.apart(plain(voters + 2).Boot.Voters)
		if ids == nil || all == nil {
			continue
		}
		way := int(seed/5) % ways
		lead := g.lead(only(all, ids), way)
		lead = g.join(all, lead, way)
		for range 6 {
			conf := g.cores[lead].Conf()
			ch := api.Change{Do: 1 + g.r.Intn(3), ID: g.r.Intn(len(g.cores))}
			if g.r.Intn(6) == 0 {
				ch = api.Change{Do: api.RemovePeer, ID: lead}
			}
			if g.change(lead, ch) != api.OK {
				continue
			}
			did++
			if ch.Do == api.RemovePeer && ch.ID == lead {
				gone++
			}
			lead = g.changed(all, conf, lead, way)
		}
	}
	if did < 150 || gone < 15 {
		t.Errorf("only %d changes, %d of the leader", did, gone)
	}
}

// only are the draws of some.
func only(draws map[int]uint64, ids []int) map[int]uint64 {
	out := map[int]uint64{}
	for _, i := range ids {
		out[i] = draws[i]
	}
	return out
}

// join lets the others of the leader's configuration come up, and answers who leads then.
func (g *group) join(all map[int]uint64, lead, way int) int {
	g.t.Helper()
	draws := only(all, members.All(g.cores[lead].Conf()))
	for range 20*g.o.Least + 4*g.entries() {
		g.round(draws, way)
	}
	if lead = g.leader(draws); lead < 0 {
		g.fail("P12.6: none leads when all are up; way %d", way)
	}
	return lead
}

// changed holds what comes of a change that one did who leads, and answers who leads then.
func (g *group) changed(all map[int]uint64, elder api.Conf, lead, way int) int {
	g.t.Helper()
	conf, at := g.cores[lead].Conf(), g.cores[lead].Last().Index
	draws := only(all, both(elder, conf))
	for range 100 + 4*len(log(g.cores[lead])) {
		g.round(draws, way)
	}
	for _, i := range members.All(conf) {
		if c := g.cores[i]; c.Commit() < at || !sameConf(c.Conf(), conf) {
			g.fail("P12.6: %d has %d of %d, and %v, not %v; way %d", i, c.Commit(), at, c.Conf(), conf, way)
		}
	}
	if members.Has(conf, lead) {
		if l := g.leader(only(all, members.All(conf))); l != lead {
			g.fail("P12.6: %d leads behind a change by %d; way %d", l, lead, way)
		}
		return lead
	}
	for range 20 * g.o.Least {
		g.round(draws, way)
	}
	next := g.leader(only(all, members.All(conf)))
	if next < 0 || g.cores[lead].Role() != api.Follower || g.cores[lead].Leads() == lead {
		g.fail("P12.6: %d leads, and %d, which was taken out, is %d; way %d", next, lead, g.cores[lead].Role(), way)
	}
	return next
}
