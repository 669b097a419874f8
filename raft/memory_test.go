package raft_test

import (
	"fmt"
	"slices"
	"testing"

	"echelon/api"
	"echelon/raft"
)

// roomy is bytes with spare room behind them, all of it filled.
func roomy(s string) []byte {
	b := append([]byte(s), "................"...)
	return b[:len(s)]
}

// spoil changes bytes, and their spare room.
func spoil(b []byte) {
	b = b[:cap(b)]
	for i := range b {
		b[i] ^= 0xff
	}
}

// TestHandedIn: what is handed in is neither changed nor kept, its spare room included.
func TestHandedIn(t *testing.T) {
	o := plain(1)
	voters, learners := []int{0, 7, 8}, []int{3, 5, 9}
	o.Boot = api.Conf{Voters: voters[:1], Learners: learners[:2]}
	want := api.Conf{Voters: []int{0}, Learners: []int{3, 5}}
	c, d := leading(t, o)
	is(t, "P12.4: Compact", c.Compact(1, nil), api.OK)
	voters[0], learners[0], learners[1] = 4, 1, 2
	if !sameConf(c.Conf(), want) || !slices.Equal(voters, []int{4, 7, 8}) || !slices.Equal(learners, []int{1, 2, 9}) {
		t.Errorf("rule 5: Boot: %v, and there is %v, %v", c.Conf(), voters, learners)
	}
	bodies := [][]byte{roomy("one"), roomy("two"), roomy("three")}
	c.Propose(bodies[:2]...)
	if fmt.Sprintf("%s%s", bodies, bodies[0][:9]) != "[one two three]one......" {
		t.Errorf("rule 5: the bodies handed in are changed: %s", bodies)
	}
	for _, b := range bodies {
		spoil(b)
	}
	bodies[0], bodies[1] = nil, nil
	body := roomy("snap")
	is(t, "P12.4: Compact", c.Compact(2, body), api.OK)
	if string(body[:9]) != "snap....." {
		t.Errorf("rule 5: the snapshot handed in is changed: %s", body[:9])
	}
	spoil(body)
	for _, k := range []*raft.Core{c, opened(t, d, 0, plain(1), 0)} {
		x, _ := k.Newest()
		if e, _ := k.At(3); string(x.Body) != "snap" || string(e.Body) != "two" || !sameConf(k.Conf(), want) {
			t.Errorf("rule 5: it has %v, %v, %v", x, e, k.Conf())
		}
	}
}

// TestHeardBytes: nor are the bytes of a post, whatever kind it is.
func TestHeardBytes(t *testing.T) {
	for seed := range int64(40) {
		plainly, spoiled := begin(t, seed, some(seed, 3), 3, 1, 1<<20), begin(t, seed, some(seed, 3), 3, 1, 1<<20)
		for range 600 {
			plainly.wild()
		}
		spoiled.spoils = true
		for range 600 {
			spoiled.wild()
		}
		plainly.rouse()
		spoiled.rouse()
		if plainly.tells() != spoiled.tells() {
			plainly.fail("rule 5: there is %s, not %s", spoiled.tells(), plainly.tells())
		}
	}
}

// spoilt is a post's bytes with spare room, that are spoilt behind the call.
func (g *group) spoilt(b []byte, hear func(b []byte)) {
	g.t.Helper()
	if !g.spoils {
		hear(b)
		return
	}
	c := roomy(string(b))
	hear(c)
	if string(c) != string(b) || string(c[len(c):cap(c)][:9]) != "........." {
		g.fail("rule 5: the post handed in is changed")
	}
	spoil(c)
}

// TestAnswers: answers are new memory: changed, they change nothing, and no two lists share any.
func TestAnswers(t *testing.T) {
	o := plain(3)
	o.Boot.Learners = []int{3}
	g := begin(t, 3, o, 3, 1, 1<<20)
	draws := g.apart([]int{0, 1, 2, 3})
	lead := g.lead(draws, inOrder)
	c := g.cores[lead]
	for _, conf := range []api.Conf{c.Conf(), c.Conf()} {
		conf.Voters[0] = 9
		_ = append(conf.Voters[:1], 5, 5, 5)
		_ = append(conf.Learners, 5, 5)
	}
	if !sameConf(c.Conf(), g.o.Boot) {
		t.Errorf("rule 5: Conf: %v", c.Conf())
	}
	_, ps, _ := c.Propose([]byte("body"), []byte("more"))
	_, again, _ := c.Propose([]byte("body"), []byte("more"))
	ps = append(ps, again...)
	for i, p := range ps {
		was := make([]string, len(ps))
		for k, q := range ps {
			was[k] = string(q.B)
		}
		spoil(p.B)
		for k, q := range ps {
			if k != i && string(q.B) != was[k] {
				t.Errorf("rule 5: posts %d and %d share memory", i, k)
			}
		}
		spoil(p.B)
	}
	g.bodies["body"], g.bodies["more"] = 0, 0
	for range 2 {
		es := c.Agreed(1, 99)
		for _, e := range es {
			spoil(e.Body)
		}
		_ = append(es[:1], api.Entry{}, api.Entry{})
	}
	for _, p := range ps {
		_, e := g.cores[p.To].Hear(p.B, draws[p.To])
		is(t, "P12.2: Hear", e, api.OK)
	}
	if e, _ := c.At(c.Last().Index); string(e.Body) != "more" {
		t.Errorf("rule 5: there is %v", e)
	}
}
