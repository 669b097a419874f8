package raft_test

import (
	"fmt"
	"slices"
	"testing"

	"echelon/api"
	"echelon/disk"
	"echelon/raft"
)

// scene is a group ahead of a call of one of its cores that writes.
type scene struct {
	what string
	lay  func(t *testing.T) (*group, int, func(c *raft.Core) ([]api.Post, api.Errno))
}

// three is a calm group of three, of which 0 leads, with some entries.
func three(t *testing.T) (*group, map[int]uint64) {
	t.Helper()
	g := begin(t, 1, plain(3), 3, 0, 5000)
	draws := map[int]uint64{}
	for i := range g.cores {
		draws[i] = uint64(3 * i)
	}
	for i := range g.cores {
		g.crash(i)
		g.open(i, draws[i])
	}
	for range 40 {
		g.round(draws, inOrder)
	}
	if g.leader(draws) != 0 {
		g.fail("P12.6: %d leads", g.leader(draws))
	}
	g.propose(0, 5)
	for range 30 {
		g.round(draws, inOrder)
	}
	g.wire = nil
	return g, draws
}

// postTo is the first post under way to one, of a leader's or not.
func (g *group) postTo(i int, leads bool) []byte {
	g.t.Helper()
	for _, p := range g.wire {
		if w, _ := raft.Tell(p.B); p.To == i && w.Leads == leads {
			return p.B
		}
	}
	g.fail("there is no post to %d", i)
	return nil
}

func hears(b []byte) func(c *raft.Core) ([]api.Post, api.Errno) {
	return func(c *raft.Core) ([]api.Post, api.Errno) { return c.Hear(b, 5) }
}

// scenes are all calls that write, each for whatever it may be that it writes.
func scenes() []scene {
	return []scene{
		{"it stands", func(t *testing.T) (*group, int, func(c *raft.Core) ([]api.Post, api.Errno)) {
			g, _ := three(t)
			for range g.clocks[1] - 1 {
				g.tick(1, 3)
			}
			return g, 1, func(c *raft.Core) ([]api.Post, api.Errno) { return c.Tick(3), fallen(c) }
		}},
		{"it leads alone", func(t *testing.T) (*group, int, func(c *raft.Core) ([]api.Post, api.Errno)) {
			g := begin(t, 1, plain(1), 1, 0, 5000)
			for range g.clocks[0] - 1 {
				g.tick(0, 0)
			}
			return g, 0, func(c *raft.Core) ([]api.Post, api.Errno) { return c.Tick(3), fallen(c) }
		}},
		{"it votes", func(t *testing.T) (*group, int, func(c *raft.Core) ([]api.Post, api.Errno)) {
			g, _ := three(t)
			for g.cores[1].Role() != api.Candidate {
				g.tick(1, 3)
			}
			return g, 2, hears(g.postTo(2, false))
		}},
		{"it is elected", func(t *testing.T) (*group, int, func(c *raft.Core) ([]api.Post, api.Errno)) {
			g, _ := three(t)
			for g.cores[1].Role() != api.Candidate {
				g.tick(1, 3)
			}
			g.hear(2, g.postTo(2, false), 6)
			return g, 1, hears(g.postTo(1, false))
		}},
		{"a Term comes", func(t *testing.T) (*group, int, func(c *raft.Core) ([]api.Post, api.Errno)) {
			g, draws := three(t)
			for g.cores[1].State.Term < 9 {
				g.tick(1, 3)
			}
			g.wire = nil
			for g.wire == nil {
				g.tick(0, 0)
			}
			g.hear(1, g.postTo(1, true), draws[1])
			return g, 0, hears(g.postTo(0, false))
		}},
		{"entries come", func(t *testing.T) (*group, int, func(c *raft.Core) ([]api.Post, api.Errno)) {
			g, _ := three(t)
			g.propose(0, 3)
			return g, 2, hears(g.postTo(2, true))
		}},
		{"entries come in the place of others, in another Term", func(t *testing.T) (*group, int, func(c *raft.Core) ([]api.Post, api.Errno)) {
			g, draws := three(t)
			g.propose(0, 3)
			g.propose(0, 3)
			g.wire = nil
			for range 40 {
				g.round(only(draws, []int{1, 2}), inOrder)
			}
			lead := g.leader(only(draws, []int{1, 2}))
			g.wire = nil
			for g.wire == nil {
				g.tick(lead, 3)
			}
			// It hears of the Term, and says that it hasn't what the leader has.
			g.hear(0, g.postTo(0, true), 0)
			g.hear(lead, g.postTo(lead, false), 3)
			b := g.wire[len(g.wire)-1].B
			return g, 0, hears(b)
		}},
		{"a snapshot comes", func(t *testing.T) (*group, int, func(c *raft.Core) ([]api.Post, api.Errno)) {
			g, draws := three(t)
			g.propose(0, 6)
			for range 8 {
				g.round(only(draws, []int{0, 1}), inOrder)
			}
			g.compact(0, g.cores[0].Commit())
			var parts []api.Post
			for len(parts) < 3 {
				g.round(draws, inOrder)
				parts = slices.DeleteFunc(slices.Clone(g.wire), func(p api.Post) bool {
					w, _ := raft.Tell(p.B)
					return p.To != 2 || !w.Leads
				})
			}
			for _, p := range parts[:len(parts)-1] {
				g.hear(2, p.B, 6)
			}
			return g, 2, hears(parts[len(parts)-1].B)
		}},
		{"Propose", func(t *testing.T) (*group, int, func(c *raft.Core) ([]api.Post, api.Errno)) {
			g, _ := three(t)
			return g, 0, func(c *raft.Core) ([]api.Post, api.Errno) {
				m, ps, e := c.Propose([]byte("x"), []byte("y"))
				return ps, beside(m, e)
			}
		}},
		{"Change", func(t *testing.T) (*group, int, func(c *raft.Core) ([]api.Post, api.Errno)) {
			g, _ := three(t)
			return g, 0, func(c *raft.Core) ([]api.Post, api.Errno) {
				m, ps, e := c.Change(api.Change{Do: api.AddLearner, ID: 7})
				return ps, beside(m, e)
			}
		}},
		{"Compact", func(t *testing.T) (*group, int, func(c *raft.Core) ([]api.Post, api.Errno)) {
			g, _ := three(t)
			return g, 1, func(c *raft.Core) ([]api.Post, api.Errno) { return nil, c.Compact(4, []byte("s")) }
		}},
	}
}

// fallen is what a Tick would answer, if it did.
func fallen(c *raft.Core) api.Errno {
	if c.Down() {
		return api.ErrDown
	}
	return api.OK
}

// beside is an error, beside which there is no place.
func beside(m api.Mark, e api.Errno) api.Errno {
	if (m == api.Mark{}) != (e != api.OK) {
		return -1
	}
	return e
}

// dead holds that a core is down: nothing is said, all is refused, and nothing written, though the disk were well.
func dead(t *testing.T, what string, c *raft.Core, d *disk.Disk) {
	t.Helper()
	all, role, leads, commit := files(d), c.Role(), c.Leads(), c.Commit()
	for range 40 {
		if ps := c.Tick(0); len(ps) != 0 {
			t.Fatalf("P12.2: %s: a post", what)
		}
	}
	_, p1, e1 := c.Propose([]byte("x"))
	_, p2, e2 := c.Propose()
	_, p3, e3 := c.Change(api.Change{Do: api.AddLearner, ID: 8})
	p4, e4 := c.Read(1)
	p5, e5 := c.Hear([]byte("junk"), 0)
	e6, e7 := c.Compact(c.Commit(), nil), c.Compact(-1, nil)
	for i, e := range []api.Errno{e1, e2, e3, e4, e5, e6, e7} {
		if e != api.ErrDown {
			t.Fatalf("P12.2: %s: call %d: %d", what, i, e)
		}
	}
	if len(p1)+len(p2)+len(p3)+len(p4)+len(p5) != 0 || len(c.Reads()) != 0 || !c.Down() {
		t.Fatalf("P12.2: %s: there are posts, or reads", what)
	}
	if files(d) != all || c.Role() != role || c.Leads() != leads || c.Commit() != commit {
		t.Fatalf("P12.2: %s: there is %s, not %s", what, files(d), all)
	}
}

// ends lets a scene come to its end with a disk that was spoilt: true, if the call was done.
func (s scene) ends(t *testing.T, what string, spoil func(d *disk.Disk), mend func(d *disk.Disk)) bool {
	t.Helper()
	g, i, call := s.lay(t)
	c, d := g.cores[i], g.disks[i]
	ahead := tell(c, d)
	g.bodies["x"], g.bodies["y"] = 0, 0
	g.snaps[api.Mark{Index: 4, Term: 1}] = []string{"s"}
	spoil(d)
	ps, e := call(c)
	if e == api.OK {
		if c.Down() {
			t.Fatalf("P12.2: %s: down, and OK", what)
		}
		g.after(i, ps, false)
		if tell(c, d) == ahead {
			t.Fatalf("P12.2: %s: nothing was done", what)
		}
		return true
	}
	if e != api.ErrDown || !c.Down() || len(ps) != 0 {
		t.Fatalf("P12.2: %s: %d, %d posts", what, e, len(ps))
	}
	mend(d)
	dead(t, what, c, d)
	g.crash(i)
	g.open(i, 1)
	draws := map[int]uint64{}
	for k := range g.cores {
		draws[k] = uint64(3 * k)
	}
	g.wire = nil
	g.lead(draws, mixed)
	return false
}

// TestStopped: each call that writes, with the disk stopped at each of its calls.
func TestStopped(t *testing.T) {
	for _, s := range scenes() {
		n := 0
		for !s.ends(t, fmt.Sprintf("%s: Stop(%d)", s.what, n), func(d *disk.Disk) { d.Stop(n) }, func(d *disk.Disk) { d.Stop(-1) }) {
			n++
		}
		if n < 2 {
			t.Errorf("P12.2: %s: it is done with Stop(%d)", s.what, n)
		}
	}
}

// TestDownReads: reads that were fresh ahead of the error aren't told.
func TestDownReads(t *testing.T) {
	c, d := leading(t, plain(1))
	if _, e := c.Read(1); e != api.OK {
		t.Fatalf("P12.3: Read: %d", e)
	}
	d.Stop(0)
	if _, _, e := c.Propose([]byte("x")); e != api.ErrDown {
		t.Fatalf("P12.2: Propose: %d", e)
	}
	dead(t, "a read was fresh", c, d)
}

// TestFull: each call that writes, with as much room on the disk as it may be.
func TestFull(t *testing.T) {
	full := 0
	for _, s := range scenes() {
		n := 0
		fill := func(d *disk.Disk) { d.Append("full", make([]byte, d.Free()-n)) }
		for !s.ends(t, fmt.Sprintf("%s: %d bytes are free", s.what, n), fill, func(d *disk.Disk) { d.Remove("full") }) {
			n += 3
		}
		full += min(n, 1)
	}
	if full < 6 {
		t.Errorf("P12.2: only %d calls need room", full)
	}
}
