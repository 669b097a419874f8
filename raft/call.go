package raft

import (
	"echelon/api"
)

// fault is what breaks a call off: the disk's error.
type fault api.Errno

// run does a call of a core that isn't down, and takes what it says. A fault takes the core down, and nothing of what the call was about to say is said.
func (c *Core) run(call func() api.Errno) (_ []api.Post, e api.Errno) {
	if c.down {
		return nil, api.ErrDown
	}
	defer func() {
		x := recover()
		if x == nil {
			return
		}
		if _, ok := x.(fault); !ok {
			panic(x)
		}
		c.fall()
		e = api.ErrDown
	}()
	e = call()
	ps := c.posts
	c.posts = nil
	return ps, e
}

// fall takes the core down. What the disk did ahead of its error may have changed the log, or where that begins.
func (c *Core) fall() {
	c.down, c.posts = true, nil
	c.book = c.read()
	c.agree(c.Mark().Index)
}

// must breaks the call off, if the disk had an error.
func (c *Core) must(e api.Errno) {
	if e != api.OK {
		panic(fault(e))
	}
}

// keep keeps a state and entries, those from an Index on being taken away ahead of it (0: none are).
func (c *Core) keep(s api.State, from int, es ...api.Entry) {
	c.must(c.Keep(s, from, es...))
	if from > 0 {
		c.book.cut(from)
	}
	c.book.lay(es...)
}

// say lets a post go out when the call is over.
func (c *Core) say(to int, m message) {
	c.posts = append(c.posts, api.Post{To: to, B: bytesOf(m)})
}
