package raft

import (
	"math"

	"echelon/api"
	"echelon/members"
)

// book has the configurations of a log: the one that it begins with, and those of its entries.
type book struct {
	first api.Conf
	steps []step
}

// step is an entry's configuration.
type step struct {
	at   int
	conf api.Conf
}

// read is the book of what is kept.
func (c *Core) read() book {
	b := book{first: c.options.Boot}
	if x, ok := c.Newest(); ok {
		if conf, e := members.Parse(x.Conf); e == api.OK {
			b.first = conf
		}
	}
	b.lay(c.From(c.Mark().Index+1, math.MaxInt)...)
	return b
}

// lay lays the configurations of entries behind the others.
func (b *book) lay(es ...api.Entry) {
	for _, e := range es {
		if e.Kind != api.KindConf {
			continue
		}
		if conf, err := members.Parse(e.Body); err == api.OK {
			b.steps = append(b.steps, step{e.Index, conf})
		}
	}
}

// upTo is how many of its steps are at or ahead of an Index.
func (b *book) upTo(index int) int {
	n := 0
	for n < len(b.steps) && b.steps[n].at <= index {
		n++
	}
	return n
}

// behind is the configuration behind so many steps.
func (b *book) behind(n int) api.Conf {
	if n < 1 {
		return b.first
	}
	return b.steps[n-1].conf
}

// cut lets go of the steps from an Index on.
func (b *book) cut(from int) {
	b.steps = b.steps[:b.upTo(from-1)]
}

// begin lets the book begin behind an Index.
func (b *book) begin(index int) {
	n := b.upTo(index)
	b.first = b.behind(n)
	b.steps = b.steps[n:]
}

// now is the configuration that counts, agreed or not.
func (b *book) now() api.Conf {
	return b.behind(len(b.steps))
}

// at is where it stands in the log; 0, if the log begins with it.
func (b *book) at() int {
	if len(b.steps) == 0 {
		return 0
	}
	return b.steps[len(b.steps)-1].at
}

// before is the configuration ahead of it, as far as the log tells.
func (b *book) before() api.Conf {
	return b.behind(len(b.steps) - 1)
}
