package raft_test

import (
	"bytes"
	"fmt"
	"math"
	"slices"
	"testing"

	"echelon/api"
	"echelon/disk"
	"echelon/members"
	"echelon/raft"
)

// plain are options that are right; the first so many servers are voters.
func plain(voters int) api.Options {
	o := api.Options{Least: 12, Beat: 2, Piece: 9, Size: 100, Feed: 3}
	for i := range voters {
		o.Boot.Voters = append(o.Boot.Voters, i)
	}
	return o
}

// space is an empty disk.
func space(t *testing.T, room int) *disk.Disk {
	t.Helper()
	d, e := disk.New(room)
	if d == nil || e != api.OK {
		t.Fatalf("P3.1: New(%d): %d", room, e)
	}
	return d
}

// opened is a core that is opened without an error.
func opened(t *testing.T, d *disk.Disk, id int, o api.Options, draw uint64) *raft.Core {
	t.Helper()
	c, e := raft.Open(d, id, o, draw)
	if c == nil || e != api.OK {
		t.Fatalf("P12.1: Open of %d with %v: %v, %d", id, o, c, e)
	}
	return c
}

// leading is a core that is the only voter, and leads.
func leading(t *testing.T, o api.Options) (*raft.Core, *disk.Disk) {
	t.Helper()
	d := space(t, 1<<24)
	c := opened(t, d, o.Boot.Voters[0], o, 0)
	for range o.Least {
		c.Tick(0)
	}
	if c.Role() != api.Leader {
		t.Fatalf("P12.3: it is %d", c.Role())
	}
	return c, d
}

// is holds an answer against the one that is to come.
func is(t *testing.T, what string, got, want api.Errno) {
	t.Helper()
	if got != want {
		t.Fatalf("%s: %d, not %d", what, got, want)
	}
}

// files is all of a disk that can be read: each file's bytes, a bar behind those that are safe, and what is free.
func files(d *disk.Disk) string {
	s := ""
	for _, file := range d.Names() {
		b, _ := d.Read(file)
		n := d.Safe(file)
		s += fmt.Sprintf("%s=%x|%x ", file, b[:n], b[n:])
	}
	return s + fmt.Sprint(d.Free())
}

// tell is all that a core tells, but its reads, and what its disk has.
func tell(c *raft.Core, d *disk.Disk) string {
	x, ok := c.Newest()
	return fmt.Sprint(c.ID(), c.Role(), c.Leads(), c.Commit(), c.Conf(), c.Down(), c.State, c.Mark(), c.Last(), x, ok, c.From(c.Mark().Index+1, math.MaxInt), c.Agreed(c.Mark().Index+1, math.MaxInt), files(d))
}

// sameEntry: are both one entry?
func sameEntry(a, b api.Entry) bool {
	return a.Index == b.Index && a.Term == b.Term && a.Kind == b.Kind && bytes.Equal(a.Body, b.Body)
}

// sameConf: are both one configuration?
func sameConf(a, b api.Conf) bool {
	return slices.Equal(a.Voters, b.Voters) && slices.Equal(a.Learners, b.Learners)
}

// oneChange: does one configuration follow another one by one change?
func oneChange(a, b api.Conf) bool {
	for do := api.AddLearner; do <= api.RemovePeer; do++ {
		for _, id := range both(a, b) {
			if c, e := members.Next(a, api.Change{Do: do, ID: id}); e == api.OK && sameConf(c, b) {
				return true
			}
		}
	}
	return false
}

// both are all who are in one of two configurations.
func both(a, b api.Conf) []int {
	ids := append(members.All(a), members.All(b)...)
	slices.Sort(ids)
	return slices.Compact(ids)
}

// log are all entries of a core's log.
func log(c *raft.Core) []api.Entry {
	return c.From(c.Mark().Index+1, math.MaxInt)
}

// confAt is where a core's configuration stands in its log; 0, if it doesn't.
func confAt(c *raft.Core) int {
	at := 0
	for _, e := range log(c) {
		if e.Kind == api.KindConf {
			at = e.Index
		}
	}
	return at
}
