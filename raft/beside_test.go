package raft_test

import (
	"encoding/hex"
	"fmt"
	"testing"

	"echelon/api"
	"echelon/members"
	"echelon/raft"
)

// none, body and conf are entries of a Term.
func none(term int) api.Entry { return api.Entry{Term: term} }
func body(term int) api.Entry { return api.Entry{Term: term, Kind: api.KindBody, Body: []byte("b")} }
func conf(term int, voters, learners []int) api.Entry {
	c := api.Conf{Voters: voters, Learners: learners}
	return api.Entry{Term: term, Kind: api.KindConf, Body: members.Bytes(c)}
}

// bare is a feed of server 1 without entries: Term, Index and Term ahead of them, commit, round.
func bare(term, prev, at, commit, round uint64) api.Val {
	return with(entries(), term, 1, prev, at, commit, round)
}

// agreeing is a feed of server 1 in Term 3 with entries, ahead of its first round.
func agreeing(commit, prev, term uint64, es ...api.Entry) api.Val {
	return with(entries(es...), 3, 1, prev, term, commit, 0)
}

// told holds each of some bytes to be heard, or not.
func told(t *testing.T, what string, all []said) {
	t.Helper()
	for i, s := range all {
		s.heard(t, fmt.Sprint(what, ", ", i))
	}
}

// TestGivenBytes: bytes that were heard, which no core makes.
func TestGivenBytes(t *testing.T) {
	for what, text := range map[string]string{
		"a yes, and a place":                   "ab2e9b43040105010101010000000103",
		"a no at Index 0, and more":            "65fa0ee104010501010000010701020103",
		"two bytes at 1 of ten":                "170f837a050105010101030101014d010a010101020102",
		"two bytes of two, with another's sum": "8bf2a02b050105010101030101014d01020001020102",
	} {
		b, err := hex.DecodeString(text)
		if err != nil {
			t.Fatal(err)
		}
		c := opened(t, space(t, 10000), 0, plain(3), 5)
		if ps, e := c.Hear(b, 3); len(ps) != 0 || e != api.ErrForm || c.State != (api.State{Vote: -1}) || c.Leads() != -1 {
			t.Errorf("P12.2: %s: %d posts, %d; it is in %v, and knows %d", what, len(ps), e, c.State, c.Leads())
		}
	}
}

// TestReplyBeside: what a reply's numbers can't be beside one another. Term, who, yes, Index, commit, round, place.
func TestReplyBeside(t *testing.T) {
	told(t, "a yes", []said{
		{4, plainly(5, 1, 1, 1, 0, 0, 0), true},
		{4, plainly(5, 1, 1, 1, 9, 4, 0), true},
		{4, plainly(5, 1, 1, 9, 1, 0, 0), true},
		{4, plainly(5, 1, 1, 1, 0, 0, 1), false},
		{4, plainly(5, 1, 1, 1, 0, 0, 3), false},
		{4, plainly(5, 1, 1, 9, 9, 9, 1<<31-2), false},
		{4, plainly(5, 1, 1, 0, 0, 1, 1), false},
		{4, plainly(5, 1, 1, 0, 7, 1, 0), true},
		{4, plainly(2, 1, 1, 0, 0, 0, 0), true},
		{4, plainly(2, 1, 1, 0, 7, 0, 0), true},
		{4, plainly(1, 1, 1, 0, 0, 0, 0), false},
		{4, plainly(1, 1, 1, 0, 7, 0, 0), false},
		{4, plainly(1, 1, 1, 1, 0, 0, 0), true},
	})
	told(t, "a no at Index 0", []said{
		{4, plainly(5, 1, 0, 0, 0, 0, 0), true},
		{4, plainly(2, 1, 0, 0, 0, 0, 0), true},
		{4, plainly(1, 1, 0, 0, 0, 0, 0), false},
		{4, plainly(5, 1, 0, 0, 1, 0, 0), false},
		{4, plainly(5, 1, 0, 0, 0, 1, 0), false},
		{4, plainly(5, 1, 0, 0, 0, 0, 1), false},
		{4, plainly(5, 1, 0, 0, 7, 2, 3), false},
	})
	told(t, "a no", []said{
		{4, plainly(1, 1, 0, 1, 0, 0, 0), true},
		{4, plainly(5, 1, 0, 5, 4, 0, 0), true},
		{4, plainly(5, 1, 0, 5, 4, 8, 300), true},
		{4, plainly(5, 1, 0, 5, 0, 0, 1<<31-2), true},
		{4, plainly(5, 1, 0, 5, 5, 0, 0), false},
		{4, plainly(5, 1, 0, 5, 6, 0, 0), false},
		{4, plainly(5, 1, 0, 1, 1, 3, 0), false},
		{4, plainly(5, 1, 0, 1, top-1, 3, 0), false},
	})
}

// TestFirstOfTerm: the first entry of a Term, and no other, is of KindNone.
func TestFirstOfTerm(t *testing.T) {
	some := []int{1, 2}
	told(t, "the first of a Term", []said{
		{3, fed(0, 0, none(3)), true},
		{3, fed(0, 0, body(3)), false},
		{3, fed(0, 0, body(1)), false},
		{3, fed(0, 0, conf(1, some, nil)), false},
		{3, fed(0, 0, none(1), body(1), body(1), none(3), body(3)), true},
		{3, fed(0, 0, none(1), none(2), none(3)), true},
		{3, fed(0, 0, none(1), none(1), none(3)), false},
		{3, fed(0, 0, none(1), body(2), none(3)), false},
		{3, fed(0, 0, none(1), body(1), body(3)), false},
		{3, fed(4, 2, none(3), body(3)), true},
		{3, fed(4, 2, body(2), none(3)), true},
		{3, fed(4, 2, body(2)), true},
		{3, fed(4, 2, none(2)), false},
		{3, fed(4, 2, body(3)), false},
		{3, fed(4, 2, conf(3, some, nil)), false},
		{3, agreeing(4, 4, 2, conf(3, some, nil)), false},
		{3, fed(4, 2, none(3), none(3)), false},
		{3, fed(4, 3, none(3)), false},
		{3, fed(4, 3, body(3), none(3)), false},
	})
}

// TestMostEntries: no options let a leader tell of more than 2^20 entries at once.
func TestMostEntries(t *testing.T) {
	t.Parallel()
	es := make([]api.Entry, 1<<20+1)
	for i := range es {
		es[i] = api.Entry{Term: 3, Kind: api.KindBody}
	}
	told(t, "so many entries", []said{{3, fed(4, 3, es[1:]...), true}, {3, fed(4, 3, es...), false}})
}

// TestBareFeed: without entries, ahead of the first round, is told who has all that he is to have.
func TestBareFeed(t *testing.T) {
	told(t, "at its own entries", []said{
		{3, bare(3, 5, 3, 5, 0), true},
		{3, bare(3, 5, 3, 1, 0), true},
		{3, bare(3, 5, 3, 0, 0), false},
		{3, bare(3, 5, 3, 6, 0), false},
		{3, bare(3, 5, 3, top-1, 0), false},
		{3, bare(3, 5, 3, 0, 1), true},
		{3, bare(3, 5, 3, 6, 1), true},
		{3, bare(1, 5, 1, 5, 0), true},
		{3, bare(1, 5, 1, 0, 0), false},
		{3, with(entries(body(3)), 3, 1, 5, 3, 9, 0), true},
		{3, with(entries(body(3)), 3, 1, 5, 3, 0, 0), true},
	})
	told(t, "at an elder one", []said{
		{3, bare(3, 5, 2, 0, 0), true},
		{3, bare(3, 5, 2, 5, 0), true},
		{3, bare(3, 5, 2, 6, 0), false},
		{3, bare(3, 5, 2, 6, 1), true},
		{3, bare(2, 0, 0, 0, 0), true},
		{3, bare(2, 0, 0, 1, 0), false},
		{3, bare(2, 0, 0, 1, 1), true},
		{3, bare(1, 0, 0, 0, 0), false},
		{3, bare(1, 0, 0, 1, 0), false},
		{3, bare(1, 0, 0, 0, 1), true},
		{3, bare(1, 0, 0, 4, 1), true},
	})
}

// TestLogGoesOn: where entries end in an elder Term there is room for the first one of the leader's.
func TestLogGoesOn(t *testing.T) {
	told(t, "the greatest Index", []said{
		{3, bare(3, top-1, 3, 0, 1), true},
		{3, bare(3, top-1, 2, 0, 1), false},
		{3, bare(3, top-2, 2, 0, 1), true},
		{3, fed(top-2, 2, body(2)), false},
		{3, fed(top-2, 2, none(3)), true},
		{3, fed(top-3, 2, body(2)), true},
		{3, fed(top-3, 1, none(2)), true},
		{3, fed(top-2, 1, none(2)), false},
	})
}

// TestOwnChange: a leader changes the configuration once an entry of its Term, and its last change, are agreed; while it does it is a voter, and it doesn't come to be a learner.
func TestOwnChange(t *testing.T) {
	abc, abcd, ab, bc := []int{1, 2, 3}, []int{1, 2, 3, 4}, []int{1, 2}, []int{2, 3}
	four := []int{4}
	told(t, "what is agreed ahead of it", []said{
		{3, agreeing(0, 4, 3, conf(3, abc, nil)), false},
		{3, agreeing(1, 4, 3, conf(3, abc, nil)), true},
		{3, agreeing(9, 4, 3, conf(3, abc, nil)), true},
		{3, agreeing(4, 4, 2, none(3), conf(3, abc, nil)), false},
		{3, agreeing(5, 4, 2, none(3), conf(3, abc, nil)), true},
		{3, agreeing(4, 4, 2, none(3), body(3), conf(3, abc, nil)), false},
		{3, agreeing(5, 4, 2, none(3), body(3), conf(3, abc, nil)), true},
		{3, agreeing(0, 0, 0, none(3), conf(3, abc, nil)), false},
		{3, agreeing(1, 0, 0, none(3), conf(3, abc, nil)), true},
		{3, agreeing(4, 4, 3, conf(3, abc, four), conf(3, abcd, nil)), false},
		{3, agreeing(5, 4, 3, conf(3, abc, four), conf(3, abcd, nil)), true},
		{3, agreeing(4, 4, 3, conf(3, abc, four), body(3), conf(3, abcd, nil)), false},
		{3, agreeing(5, 4, 3, conf(3, abc, four), body(3), conf(3, abcd, nil)), true},
		{3, agreeing(5, 4, 2, conf(2, abc, four), none(3), conf(3, abcd, nil)), false},
		{3, agreeing(6, 4, 2, conf(2, abc, four), none(3), conf(3, abcd, nil)), true},
	})
	told(t, "an elder leader's", []said{
		{3, agreeing(0, 4, 2, conf(2, abc, nil)), true},
		{3, agreeing(0, 4, 2, conf(2, abc, four), conf(2, abcd, nil)), true},
		{3, agreeing(0, 4, 1, conf(1, abc, four), none(2), conf(2, abcd, nil)), true},
	})
	told(t, "who leads", []said{
		{3, agreeing(9, 4, 3, conf(3, bc, nil)), true},
		{3, agreeing(9, 4, 3, conf(3, bc, nil), body(3)), true},
		{3, agreeing(9, 4, 3, conf(3, abc, nil), conf(3, bc, nil)), true},
		{3, agreeing(9, 4, 3, conf(3, bc, nil), conf(3, bc, four)), false},
		{3, agreeing(9, 4, 3, conf(3, bc, nil), body(3), conf(3, bc, four)), false},
		{3, agreeing(9, 4, 3, conf(3, bc, []int{1})), false},
		{3, agreeing(9, 4, 2, none(3), conf(3, bc, []int{1})), false},
		{3, agreeing(9, 4, 2, conf(2, bc, nil)), true},
		{3, agreeing(9, 4, 2, conf(2, bc, nil), none(3)), false},
		{3, agreeing(9, 4, 2, conf(2, bc, []int{1})), true},
		{3, agreeing(9, 4, 2, conf(2, bc, []int{1}), none(3)), false},
		{3, agreeing(9, 4, 2, conf(2, bc, []int{1}), conf(2, abc, nil), none(3)), true},
		{3, agreeing(9, 4, 2, conf(2, bc, nil), conf(2, bc, []int{1}), conf(2, abc, nil), none(3), conf(3, ab, nil)), true},
		{3, agreeing(9, 4, 1, conf(1, bc, nil), none(2)), true},
	})
}

// TestChanges: of two configurations the later one follows by one change, whoever did it.
func TestChanges(t *testing.T) {
	confs := []api.Conf{}
	for k := range 81 {
		c := api.Conf{}
		for id := 1; id <= 4; id++ {
			switch k % 3 {
			case 1:
				c.Voters = append(c.Voters, id)
			case 2:
				c.Learners = append(c.Learners, id)
			}
			k /= 3
		}
		if members.Right(c) {
			confs = append(confs, c)
		}
	}
	for _, a := range confs {
		for _, b := range confs {
			first, then := conf(2, a.Voters, a.Learners), conf(2, b.Voters, b.Learners)
			what := fmt.Sprint(a, " and then ", b)
			said{3, fed(4, 2, first, body(2), then), oneChange(a, b)}.heard(t, what)
			if oneChange(a, b) {
				said{3, fed(4, 1, conf(1, a.Voters, a.Learners), none(2), then, body(2)), true}.heard(t, what)
			}
		}
	}
	said{3, fed(4, 2, conf(2, []int{1}, nil), conf(2, []int{1}, []int{2}), conf(2, []int{1}, nil), conf(2, []int{1}, []int{3})), true}.heard(t, "to and fro")
	said{3, fed(4, 2, conf(2, []int{1}, nil), conf(2, []int{1}, []int{2}), conf(2, []int{1}, []int{3})), false}.heard(t, "two at once")
}

// TestBareToTakenOut: one that has nothing, and was taken out by a change that its leader, which was opened anew, doesn't know to be agreed, is told without entries, ahead of any round, from the very beginning on; it hears that.
func TestBareToTakenOut(t *testing.T) {
	g := begin(t, 1, slow(), 3, 0, 1<<20)
	g.elect(0, 1)
	g.pass(0, 1)
	g.wire = nil
	g.propose(0, 1)
	g.pass(0, 1)
	is(t, "P12.3: Change", g.change(0, api.Change{Do: api.RemovePeer, ID: 2}), api.OK)
	g.elect(0, 1)
	if c := g.cores[0]; c.Commit() != 0 || members.Has(c.Conf(), 2) {
		t.Fatalf("P12.1: commit %d, %v", c.Commit(), c.Conf())
	}
	// It says that it has nothing of that, and is told from the beginning on.
	g.pass(0, 2)
	want := raft.Lay(3, with(entries(), uint64(g.cores[0].State.Term), 0, 0, 0, 0, 0))
	if len(g.wire) != 1 || g.wire[0].To != 2 || string(g.wire[0].B) != string(want) {
		t.Fatalf("P12.2: it is told %v, not %x", g.wire, want)
	}
	g.pass(0, 2)
	if c := g.cores[2]; c.Leads() != 0 || c.Last() != (api.Mark{}) || c.Commit() != 0 {
		t.Errorf("P12.2: 2 knows %d, and has %v", c.Leads(), c.Last())
	}
}
