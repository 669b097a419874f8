package raft

import (
	"echelon/api"
)

// feed is a leader's: entries, and what stands ahead of them; its commit; and how often it has asked who hears it.
type feed struct {
	head
	prev          api.Mark
	commit, round int
	entries       []api.Entry
}

func (m feed) value() (byte, api.Val) {
	v := row(m.term, m.from, m.prev.Index, m.prev.Term, m.commit, m.round)
	var list api.Val
	for _, e := range m.entries {
		r := row(e.Term, e.Kind)
		r.L = append(r.L, api.Val{B: e.Body})
		list.L = append(list.L, r)
	}
	v.L = append(v.L, list)
	return kindFeed, v
}

func feedOf(v api.Val) (message, bool) {
	ns, ok := numbers(v, topIndex, api.MaxID, topIndex, topIndex, topIndex, topCount)
	if !ok {
		return nil, false
	}
	m := feed{head: head{ns[0], ns[1]}, prev: api.Mark{Index: ns[2], Term: ns[3]}, commit: ns[4], round: ns[5]}
	rows := v.L[6].L
	if m.term < 1 || !isMark(m.prev) || len(rows) > mostOption {
		return nil, false
	}
	if len(rows) == 0 && m.round == 0 && !m.mayBeBare() {
		return nil, false
	}
	t := trail{head: m.head, commit: m.commit, at: m.prev, due: 1}
	for _, r := range rows {
		ns, ok := numbers(r, topIndex, api.KindConf+1)
		if !ok {
			return nil, false
		}
		e := api.Entry{Index: t.at.Index + 1, Term: ns[0], Kind: ns[1], Body: r.L[2].B}
		if !t.pass(e) {
			return nil, false
		}
		m.entries = append(m.entries, e)
	}
	return m, t.goesOn()
}

// mayBeBare: may it be without entries, ahead of the first round? So is told who has all that he is to have: the whole log, when some of its Term is agreed; or what is agreed, if he was taken out, by the leader or, ahead of its own entries, by an elder one.
func (m feed) mayBeBare() bool {
	own := m.prev.Term == m.term
	return m.commit <= m.prev.Index && (own && m.commit > 0 || !own && m.term > 1)
}
