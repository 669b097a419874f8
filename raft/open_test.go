package raft_test

import (
	"fmt"
	"math"
	"testing"

	"echelon/api"
	"echelon/disk"
	"echelon/members"
	"echelon/raft"
	"echelon/vault"
)

// refused holds that there is no core.
func refused(t *testing.T, what string, d *disk.Disk, id int, o api.Options, want api.Errno) {
	t.Helper()
	if c, e := raft.Open(d, id, o, 0); c != nil || e != want {
		t.Errorf("P12.1: Open: %s: %v, %d, not %d", what, c, e, want)
	}
}

// wrong are options that aren't right: of each one thing isn't.
func wrong() map[string]api.Options {
	out := map[string]api.Options{}
	for what, change := range map[string]func(o *api.Options, n int){
		"Piece": func(o *api.Options, n int) { o.Piece = n },
		"Size":  func(o *api.Options, n int) { o.Size = n },
		"Feed":  func(o *api.Options, n int) { o.Feed = n },
		"Beat":  func(o *api.Options, n int) { o.Beat = n },
		"Least": func(o *api.Options, n int) { o.Least = n },
	} {
		for _, n := range []int{0, -1, 1<<20 + 1, math.MinInt, math.MaxInt} {
			o := plain(3)
			change(&o, n)
			out[fmt.Sprint(what, n)] = o
		}
	}
	for i, c := range []api.Conf{{}, {Voters: []int{1, 0}}, {Voters: []int{-1}}, {Voters: []int{1 << 20}}, {Learners: []int{1}}, {Voters: []int{1}, Learners: []int{1}}, {Voters: []int{0, 1, 2, 3, 4, 5, 6, 7, 8, 9}}} {
		o := plain(3)
		o.Boot = c
		out[fmt.Sprint("Boot", i)] = o
	}
	for _, n := range [][2]int{{1, 2}, {2, 4}, {5, 6}, {6, 6}, {1 << 19, 1 << 20}, {math.MaxInt / 2, 1 << 20}, {math.MaxInt/2 + 2, 1 << 20}} {
		o := plain(3)
		o.Beat, o.Least = n[0], n[1]
		out[fmt.Sprint("Beat and Least", n)] = o
	}
	return out
}

func TestOpenWrong(t *testing.T) {
	d, right := space(t, 999), plain(1)
	empty := files(d)
	refused(t, "no disk", nil, 0, right, api.ErrNil)
	refused(t, "no disk, and nothing else is right", nil, -1, api.Options{}, api.ErrNil)
	for _, id := range []int{-1, 1 << 20, 1<<20 + 1, math.MinInt, math.MaxInt} {
		refused(t, fmt.Sprint("id ", id), d, id, right, api.ErrArg)
	}
	for what, o := range wrong() {
		refused(t, what, d, 0, o, api.ErrArg)
	}
	if files(d) != empty {
		t.Errorf("P12.1: there is %s", files(d))
	}
	// A log that is torn is mended, which a disk that has stopped refuses.
	is(t, "Append", d.Append("seg-0000000001", []byte("torn")), api.OK)
	d.Stop(0)
	refused(t, "the disk has stopped, and the id isn't right", d, -1, right, api.ErrArg)
	refused(t, "the disk has stopped, and the options aren't right", d, 0, api.Options{}, api.ErrArg)
	refused(t, "the disk has stopped", d, 0, right, api.ErrStop)
	d.Stop(-1)
	opened(t, d, 0, right, 0)
}

func TestOpenRight(t *testing.T) {
	for _, id := range []int{0, 1, 1<<20 - 1} {
		for _, o := range []api.Options{plain(1), plain(9), {Boot: plain(2).Boot, Least: 3, Beat: 1, Piece: 1, Size: 1, Feed: 1}, {Boot: plain(2).Boot, Least: 1 << 20, Beat: 1<<19 - 1, Piece: 1 << 20, Size: 1 << 20, Feed: 1 << 20}} {
			d := space(t, 999)
			c := opened(t, d, id, o, 7)
			if c.ID() != id || c.Role() != api.Follower || c.Leads() != -1 || c.Commit() != 0 || c.Down() || !sameConf(c.Conf(), o.Boot) || len(c.Reads()) != 0 || len(c.Agreed(1, 9)) != 0 {
				t.Errorf("P12.1: %d, %v: it is %s", id, o, tell(c, d))
			}
			if files(d) != "999" {
				t.Errorf("P12.1: there is %s", files(d))
			}
		}
	}
}

// TestOpenKept: what is kept comes again: the state, the log, the snapshot and its place as the commit; the configuration is that of the last entry that has one, else the snapshot's, else Boot.
func TestOpenKept(t *testing.T) {
	one, two, three := api.Conf{Voters: []int{1}}, api.Conf{Voters: []int{1}, Learners: []int{2}}, api.Conf{Voters: []int{1, 2}}
	entry := func(i int, c api.Conf) api.Entry {
		return api.Entry{Index: i, Term: 2, Kind: api.KindConf, Body: members.Bytes(c)}
	}
	body := api.Entry{Index: 6, Term: 2, Kind: api.KindBody, Body: []byte("b")}
	for i, c := range []struct {
		snap   bool
		log    []api.Entry
		conf   api.Conf
		commit int
	}{
		{false, nil, plain(3).Boot, 0},
		{false, []api.Entry{entry(1, two), entry(2, three), {Index: 3, Term: 3}}, three, 0},
		{true, nil, one, 4},
		{true, []api.Entry{{Index: 5, Term: 2}, body}, one, 4},
		{true, []api.Entry{entry(5, two), body, entry(7, three)}, three, 4},
		{true, []api.Entry{entry(5, three), body, entry(7, two)}, two, 4},
	} {
		d := space(t, 9999)
		v, _ := vault.Open(d, 100)
		if c.snap {
			is(t, "Install", v.Install(api.Snap{Mark: api.Mark{Index: 4, Term: 2}, Conf: members.Bytes(one), Body: []byte("s")}), api.OK)
		}
		is(t, "Keep", v.Keep(api.State{Term: 5, Vote: 2}, 0, c.log...), api.OK)
		d.Crash()
		all := files(d)
		k := opened(t, d, 1, plain(3), 0)
		if k.State != (api.State{Term: 5, Vote: 2}) || k.Commit() != c.commit || !sameConf(k.Conf(), c.conf) || len(log(k)) != len(c.log) || k.Role() != api.Follower || k.Leads() != -1 || len(k.Agreed(c.commit+1, 9)) != 0 {
			t.Errorf("P12.1: %d: it is %s", i, tell(k, d))
		}
		if files(d) != all {
			t.Errorf("P12.1: %d: there is %s, not %s", i, files(d), all)
		}
	}
}

// TestOpenDraw: the draw of Open is for the timer: a voter stands at the tick that it says, and no other server does.
func TestOpenDraw(t *testing.T) {
	for _, least := range []int{3, 4, 12} {
		for _, draw := range []uint64{0, 1, 2, 3, 11, 12, 13, 1<<63 + 5, math.MaxUint64} {
			o := plain(3)
			o.Least, o.Beat = least, 1
			o.Boot.Learners = []int{7}
			span := least + int(draw%uint64(least))
			for _, id := range []int{0, 2, 7, 8} {
				c := opened(t, space(t, 999), id, o, draw)
				for n := 1; n <= span; n++ {
					stands := n == span && id < 3
					if ps := c.Tick(0); (c.Role() == api.Candidate) != stands || len(ps) != 0 != stands || (c.State.Term == 1) != stands {
						t.Fatalf("P12.3: %d of least %d with draw %d: at tick %d it is %d, in %d", id, least, draw, n, c.Role(), c.State.Term)
					}
				}
			}
		}
	}
}
