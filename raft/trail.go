package raft

import (
	"bytes"

	"echelon/api"
	"echelon/members"
)

// trail goes along a leader's log, from one entry to the next, and holds it against what leaders lay.
type trail struct {
	head
	commit int
	at     api.Mark // how far it went
	due    int      // up to where all must be agreed ahead of the leader's next change, as far as was seen
	conf   api.Conf // the last one that was seen: without voters, if none was
}

// pass: may this be the next entry? Of each Term the first one is of KindNone, laid by its leader when it came to lead, and no other one is.
func (t *trail) pass(e api.Entry) bool {
	if e.Term < max(t.at.Term, 1) || e.Index >= topIndex || !isBody(e.Kind, e.Body) {
		return false
	}
	first, own := e.Term > t.at.Term, e.Term == t.term
	t.at = api.Mark{Index: e.Index, Term: e.Term}
	switch {
	case first != (e.Kind == api.KindNone):
		return false
	case first && own:
		t.due = e.Index
		return t.votes()
	case e.Kind == api.KindConf:
		conf, _ := members.Parse(e.Body)
		return t.change(conf, own)
	}
	return true
}

// votes: is the leader a voter, as far as was seen? Else it didn't come to lead, and changes nothing any more.
func (t *trail) votes() bool {
	return len(t.conf.Voters) == 0 || members.Votes(t.conf, t.from)
}

// change: may the entry that was passed change the configuration so? The leader's own change waits for what is due; it may take the leader out, but lets it learn never.
func (t *trail) change(conf api.Conf, own bool) bool {
	if len(t.conf.Voters) > 0 && !oneChange(t.conf, conf) {
		return false
	}
	if own {
		if t.commit < t.due || !t.votes() || members.Has(conf, t.from) && !members.Votes(conf, t.from) {
			return false
		}
		t.due = t.at.Index
	}
	t.conf = conf
	return true
}

// goesOn: may the log go on from there? It comes to entries of the leader's own Term.
func (t *trail) goesOn() bool {
	return t.at.Term == t.term || t.at.Term < t.term && t.at.Index+1 < topIndex
}

// oneChange: does a configuration follow another one by one change?
func oneChange(elder, next api.Conf) bool {
	want := members.Bytes(next)
	for _, id := range append(members.All(elder), members.All(next)...) {
		for _, do := range []int{api.AddLearner, api.Promote, api.RemovePeer} {
			c, e := members.Next(elder, api.Change{Do: do, ID: id})
			if e == api.OK && bytes.Equal(members.Bytes(c), want) {
				return true
			}
		}
	}
	return false
}

// isBody: may an entry of this Kind have this Body?
func isBody(kind int, b []byte) bool {
	switch kind {
	case api.KindNone:
		return len(b) == 0
	case api.KindConf:
		_, e := members.Parse(b)
		return e == api.OK
	}
	return len(b) <= api.MaxBody
}
