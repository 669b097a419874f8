package tally

import (
	"echelon/api"
)

// Poll gathers yes and no.
type Poll struct {
	silent          map[int]int // of each voter that said nothing yet, how often it stands
	voters, yes, no int
}

// NewPoll is an open poll.
func NewPoll(c api.Conf) *Poll {
	p := &Poll{silent: map[int]int{}, voters: len(c.Voters)}
	for _, id := range c.Voters {
		p.silent[id]++
	}
	return p
}

// Say lets some say yes or no.
func (p *Poll) Say(yes bool, ids ...int) {
	side := &p.no
	if yes {
		side = &p.yes
	}
	for _, id := range ids {
		*side += p.silent[id]
		delete(p.silent, id)
	}
}

// Stands is how it stands.
func (p *Poll) Stands() int {
	switch {
	case p.yes >= most(p.voters):
		return api.Won
	case p.voters-p.no < most(p.voters):
		return api.Lost
	}
	return api.Open
}
