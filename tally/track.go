package tally

import (
	"maps"
	"slices"

	"echelon/api"
)

// Track is how far peers are.
type Track struct {
	peers map[int]peer
}

// peer is how far one is: its match, and the index below its next, never below the match. That one is an int also where the next would be above all ints.
type peer struct {
	match, below int
}

// NewTrack tracks some peers.
func NewTrack(last int, ids ...int) *Track {
	t := &Track{}
	t.Only(last, ids...)
	return t
}

// Only tracks these, and no others.
func (t *Track) Only(last int, ids ...int) {
	stay := map[int]peer{}
	for _, id := range ids {
		p, ok := t.peers[id]
		if !ok {
			p = peer{below: max(last, 0)}
		}
		stay[id] = p
	}
	t.peers = stay
}

// Ack is that one has entries: did its match change?
func (t *Track) Ack(id, index int) bool {
	return t.change(id, func(p *peer) bool {
		if index <= p.match {
			return false
		}
		p.match, p.below = index, max(p.below, index)
		return true
	})
}

// Back is that one hasn't: did its next change?
func (t *Track) Back(id, index, hint int) bool {
	return t.change(id, func(p *peer) bool {
		if index != p.below || index <= p.match {
			return false
		}
		// A hint below 0 comes to what 0 does: no match is below 0.
		p.below = max(min(index-1, hint), p.match)
		return true
	})
}

// change lets what is told of a peer change how far it is, if it is tracked: did it?
func (t *Track) change(id int, do func(p *peer) bool) bool {
	p, ok := t.peers[id]
	if !ok || !do(&p) {
		return false
	}
	t.peers[id] = p
	return true
}

// Match is a peer's match.
func (t *Track) Match(id int) int {
	return t.peers[id].match
}

// Next is a peer's next.
func (t *Track) Next(id int) int {
	p, ok := t.peers[id]
	if !ok {
		return 0
	}
	return p.below + 1
}

// All are the matches.
func (t *Track) All() []api.Match {
	var ms []api.Match
	for _, id := range slices.Sorted(maps.Keys(t.peers)) {
		ms = append(ms, api.Match{ID: id, Index: t.Match(id)})
	}
	return ms
}
