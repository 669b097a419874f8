package raft_test

import (
	"fmt"
	"math/rand"
	"slices"
	"testing"

	"echelon/api"
	"echelon/raft"
)

// someScene is a core of a group to which much has happened, and posts that were made there, of all kinds.
func someScene(t *testing.T, seed int64) (*group, []api.Post) {
	t.Helper()
	g := begin(t, seed, some(seed, 3), 3, 1, 1<<20)
	var all []api.Post
	for range 3000 {
		g.wild()
		if len(g.wire) > 0 && len(all) < 2000 {
			all = append(all, g.wire[len(g.wire)-1])
		}
	}
	g.rouse()
	slices.SortFunc(all, func(a, b api.Post) int { return slices.Compare(a.B, b.B) })
	return g, slices.CompactFunc(all, func(a, b api.Post) bool { return slices.Equal(a.B, b.B) })
}

// strange holds that bytes are none that a core makes, and that nothing changes.
func (g *group) strange(what string, b []byte) {
	g.t.Helper()
	for i, c := range g.cores {
		ps, e := c.Hear(b, 3)
		if len(ps) != 0 || e != api.ErrForm {
			g.fail("P12.2: %d hears %s, %x: %d posts, %d", i, what, b, len(ps), e)
		}
	}
}

// tells is all that the cores of a group tell.
func (g *group) tells() string {
	s := ""
	for i, c := range g.cores {
		s += tell(c, g.disks[i]) + fmt.Sprint(c.Reads())
	}
	return s
}

// TestStrangeBytes: posts cut short, longer by a byte, or with a byte changed, and random bytes.
func TestStrangeBytes(t *testing.T) {
	kinds := map[byte]int{}
	for seed := range int64(6) {
		g, posts := someScene(t, seed)
		all := g.tells()
		for i, p := range posts {
			kinds[p.B[4]]++
			if i%7 != 0 && kinds[p.B[4]] > 20 {
				continue
			}
			for n := range p.B {
				g.strange("a post cut short", p.B[:n])
				for _, x := range []byte{1, 0x80, byte(1 + g.r.Intn(255))} {
					b := slices.Clone(p.B)
					b[n] ^= x
					g.strange("a post with a byte changed", b)
				}
			}
			for _, x := range []byte{0, 1, p.B[0], byte(g.r.Intn(256))} {
				g.strange("a longer post", append(slices.Clone(p.B), x))
				g.strange("a longer post", append([]byte{x}, p.B...))
			}
		}
		for range 3000 {
			b := make([]byte, g.r.Intn(60))
			g.r.Read(b)
			g.strange("random bytes", b)
		}
		g.strange("nothing", nil)
		if g.tells() != all {
			g.fail("P12.2: it is %s, not %s", g.tells(), all)
		}
		// The timers weren't set anew, either.
		for i := range g.cores {
			for range 2 * g.o.Least {
				g.tick(i, g.r.Uint64())
			}
		}
	}
	if len(kinds) != 5 {
		t.Errorf("posts of %d kinds", len(kinds))
	}
}

// TestForged: bytes of no core of the group, whatever they say: the call ends, and so do all calls behind it.
func TestForged(t *testing.T) {
	heard := 0
	for seed := range int64(60) {
		r := rand.New(rand.NewSource(seed))
		g, posts := someScene(t, seed%6)
		for i, c := range g.cores {
			for range 300 {
				b := raft.Forge(r, byte(1+r.Intn(5)))
				if r.Intn(3) == 0 {
					b = posts[r.Intn(len(posts))].B
				}
				ps, e := c.Hear(b, r.Uint64())
				if e == api.OK {
					heard++
				} else if len(ps) != 0 || e != api.ErrForm && e != api.ErrDown {
					t.Fatalf("P12.2: it hears %x: %d posts, %d", b, len(ps), e)
				}
				for range r.Intn(2 * g.o.Least) {
					c.Tick(r.Uint64())
				}
				c.Propose([]byte("x"))
				c.Change(api.Change{Do: 1 + r.Intn(3), ID: r.Intn(9)})
				c.Read(r.Intn(9))
				c.Reads()
				if r.Intn(20) == 0 {
					c.Compact(c.Commit()-r.Intn(3), []byte("s"))
				}
				tell(c, g.disks[i])
			}
		}
	}
	if heard < 10000 {
		t.Errorf("only %d of the posts were heard", heard)
	}
}

// FuzzHear: any bytes: the call ends; where they aren't a core's it answers ErrForm.
func FuzzHear(f *testing.F) {
	f.Add([]byte{})
	f.Add([]byte{0, 0, 0, 0, 1})
	r := rand.New(rand.NewSource(1))
	for kind := range byte(5) {
		f.Add(raft.Forge(r, kind+1))
	}
	f.Fuzz(func(t *testing.T, b []byte) {
		c := opened(t, space(t, 9999), 0, plain(3), 0)
		_, ok := raft.Tell(b)
		if ps, e := c.Hear(b, 0); ok != (e != api.ErrForm) || !ok && len(ps) != 0 {
			t.Fatalf("P12.2: %x: %d", b, e)
		}
	})
}
