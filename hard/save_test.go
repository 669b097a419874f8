package hard_test

import (
	"fmt"
	"math"
	"slices"
	"testing"

	"echelon/api"
	"echelon/hard"
)

// TestExample is the chapter's.
func TestExample(t *testing.T) {
	d := space(t, 99)
	h := open(t, "P4.1", d, none)
	save(t, "P4.2", h, state(1, 2), api.OK)
	save(t, "P4.2", h, state(1, 3), api.ErrArg)
	save(t, "P4.2", h, state(0, -1), api.ErrArg)
	save(t, "P4.2", h, state(2, -1), api.OK)
	save(t, "P4.2", h, state(2, 0), api.OK)
	d.Stop(1)
	save(t, "P4.2", h, state(3, 0), api.ErrStop)
	d.Crash()
	open(t, "P4.3", d, state(2, 0))
}

func TestSave(t *testing.T) {
	for _, c := range []struct {
		has, s api.State
		want   api.Errno
	}{
		{none, state(0, 0), api.OK},
		{none, state(0, 5), api.OK},
		{none, state(1, -1), api.OK},
		{none, none, api.OK},
		{none, state(-1, -1), api.ErrArg},
		{none, state(-1, 4), api.ErrArg},
		{none, state(1, -2), api.ErrArg},
		{none, state(math.MinInt, math.MinInt), api.ErrArg},
		{none, state(1, math.MinInt), api.ErrArg},
		{state(0, 0), none, api.ErrArg},
		{state(0, 0), state(0, 1), api.ErrArg},
		{state(0, 0), state(1, -1), api.OK},
		{state(5, -1), state(5, 0), api.OK},
		{state(5, -1), state(5, 9), api.OK},
		{state(5, -1), state(4, -1), api.ErrArg},
		{state(5, -1), state(4, 9), api.ErrArg},
		{state(5, 3), state(5, -1), api.ErrArg},
		{state(5, 3), state(5, 2), api.ErrArg},
		{state(5, 3), state(5, 3), api.OK},
		{state(5, 3), state(6, 2), api.OK},
		{state(5, 3), state(6, -1), api.OK},
		{state(5, 3), state(7, -2), api.ErrArg},
		{state(5, 3), state(big-1, 3), api.OK},
		{state(5, 3), state(big, 3), api.ErrArg},
		{state(5, 3), state(math.MaxInt, 3), api.ErrArg},
		{state(5, 3), state(6, big-1), api.OK},
		{state(5, 3), state(6, big), api.ErrArg},
		{state(5, 3), state(6, math.MaxInt), api.ErrArg},
		{state(5, -1), state(5, big-1), api.OK},
		{state(5, -1), state(5, big), api.ErrArg},
		{state(5, 3), state(big-1, big-1), api.OK},
		{state(big-1, big-1), state(big-1, big-1), api.OK},
		{state(big-1, big-1), state(big, big-1), api.ErrArg},
		{state(big-1, -1), state(big-1, big-1), api.OK},
	} {
		what := fmt.Sprintf("%v, Save(%v)", c.has, c.s)
		d := space(t, 199)
		elder := laid(7, uint64(c.has.Term), uint64(c.has.Vote+1))
		lay(t, d, "hard-0", elder)
		all := tell(d)
		h := open(t, "P4.1: "+what, d, c.has)
		save(t, "P4.2: "+what, h, c.s, c.want)
		if c.want != api.OK || c.s == c.has {
			if got := tell(d); got != all {
				t.Errorf("P4.2: %s wrote: there is %s, not %s", what, got, all)
			}
			continue
		}
		has(t, "P4.2: "+what, d, "hard-0", elder)
		has(t, "P4.2: "+what, d, "hard-1", laid(8, uint64(c.s.Term), uint64(c.s.Vote+1)))
		open(t, "P4.2: "+what, d, c.s)
		d.Crash()
		open(t, "P4.2: behind a crash: "+what, d, c.s)
	}
}

// TestSaveRow: each Save lays the other slot, with a count of one more.
func TestSaveRow(t *testing.T) {
	d := space(t, 40)
	h := open(t, "P4.1", d, none)
	slots := [2][]byte{}
	for i := range 600 {
		s := state(i/2, i%2-1)
		save(t, "P4.2", h, s, api.OK)
		if i > 0 {
			slots[(i-1)%2] = laid(uint64(i), uint64(s.Term), uint64(s.Vote+1))
		}
		has(t, "P4.2: a row of Saves", d, "hard-0", slots[0])
		has(t, "P4.2: a row of Saves", d, "hard-1", slots[1])
		save(t, "P4.2: the same again", h, s, api.OK)
		has(t, "P4.2: the same again", d, "hard-0", slots[0])
		has(t, "P4.2: the same again", d, "hard-1", slots[1])
		if i%50 == 0 {
			d.Crash()
			h = open(t, "P4.3", d, s)
		}
	}
}

// TestSaveCalls: how many calls of the disk a Save takes, and what is there behind each of them, whatever a crash leaves.
func TestSaveCalls(t *testing.T) {
	now := laid(8, 6, 3)
	for _, c := range []struct {
		zero, one []byte
		name      string
		calls     int
	}{
		{laid(7, 5, 2), nil, "hard-1", 2}, // no file is there to be removed
		{laid(7, 5, 2), laid(6, 4, 0), "hard-1", 3},
		{laid(7, 5, 2), []byte{}, "hard-1", 3}, // one without bytes is there
		{laid(6, 4, 0), laid(7, 5, 2), "hard-0", 3},
		{nil, laid(7, 5, 2), "hard-0", 2},
	} {
		for n := range 5 {
			for keep := -1; keep <= len(now)+1; keep++ {
				what := fmt.Sprintf("hard-0 %x, hard-1 %x, Stop(%d), Crash of %d", c.zero, c.one, n, keep)
				d := space(t, 99)
				lay(t, d, "hard-0", c.zero)
				lay(t, d, "hard-1", c.one)
				h := open(t, "P4.1: "+what, d, state(5, 1))
				d.Stop(n)
				want, then := api.ErrStop, state(5, 1)
				if n >= c.calls {
					want, then = api.OK, state(6, 2)
				}
				save(t, "P4.2: "+what, h, state(6, 2), want)
				if n == c.calls && d.Append("hard-2") != api.ErrStop {
					t.Errorf("P4.2: %s: fewer calls of the disk than %d", what, c.calls)
				}
				// What was appended and not synced stays as far as the crash says.
				whole := n == c.calls-1 && keep >= len(now)
				d.Crash(keep, keep)
				if whole {
					then = state(6, 2)
				}
				h = open(t, "P4.2: "+what, d, then)
				save(t, "P4.3: and on: "+what, h, state(6, 2), api.OK)
				save(t, "P4.3: and on: "+what, h, state(7, -1), api.OK)
				open(t, "P4.3: and on: "+what, d, state(7, -1))
			}
		}
	}
}

// TestFirstSaveStops: an empty disk has nobody's vote, or the one that was being saved.
func TestFirstSaveStops(t *testing.T) {
	for n := range 3 {
		for keep := range 11 {
			d := space(t, 99)
			h := open(t, "P4.1", d, none)
			d.Stop(n)
			then, want := none, api.ErrStop
			if n == 1 && keep > 8 || n == 2 {
				then = state(1, -1)
			}
			if n == 2 {
				want = api.OK
			}
			save(t, "P4.2: the first one", h, state(1, -1), want)
			d.Crash(keep)
			open(t, fmt.Sprintf("P4.2: Stop(%d), Crash(%d)", n, keep), d, then)
		}
	}
}

// TestSaveBehindStop: a Save that a stop ended in its Sync may have come about; what h has then goes on by its own state, and the count by the disk's.
func TestSaveBehindStop(t *testing.T) {
	for _, keep := range []int{0, 5, 99} {
		d := space(t, 99)
		h := open(t, "P4.1", d, none)
		save(t, "P4.2", h, state(3, 1), api.OK)
		save(t, "P4.2", h, state(4, -1), api.OK)
		d.Stop(2)
		save(t, "P4.2", h, state(4, 0), api.ErrStop)
		d.Crash(keep, keep)
		save(t, "P4.2: the same as it has", h, state(4, -1), api.OK)
		save(t, "P4.2: another vote, which the one that failed isn't", h, state(4, 2), api.OK)
		open(t, "P4.3", d, state(4, 2))
		name, count := "hard-0", uint64(3)
		if keep == 99 {
			name, count = "hard-1", 4
		}
		has(t, "P4.2", d, name, laid(count, 4, 3))
	}
}

// TestSaveFull: where there is no room the disk keeps what it has, and with room again it goes on.
func TestSaveFull(t *testing.T) {
	for room := range 10 {
		d := space(t, room)
		h := open(t, "P4.1", d, none)
		want := api.ErrFull
		if room == 9 {
			want = api.OK
		}
		save(t, fmt.Sprintf("P4.2: the first one, with room %d", room), h, state(1, -1), want)
		if want != api.OK {
			if got := tell(d); got != fmt.Sprint(room) {
				t.Errorf("P4.2: there is %s", got)
			}
			open(t, "P4.2: the first one, without room", d, none)
		}
	}
	for spare := range 3 {
		d := space(t, 20+spare)
		h := open(t, "P4.1", d, none)
		save(t, "P4.2", h, state(1, 0), api.OK)
		save(t, "P4.2", h, state(2, 0), api.OK)
		want, then := api.ErrFull, state(2, 0)
		if spare == 2 {
			want, then = api.OK, state(1<<16, 0)
		}
		for range 3 {
			save(t, fmt.Sprintf("P4.2: %d free", spare), h, state(1<<16, 0), want)
			open(t, "P4.2: a full disk", d, then)
		}
		has(t, "P4.2: the elder one stays", d, "hard-1", laid(2, 2, 1))
		d.Crash()
		open(t, "P4.2: a full disk", d, then)
		// Once the newest has two bytes more, the other slot hasn't room for as many.
		save(t, "P4.2: too great again", h, state(1<<16+1, 0), api.ErrFull)
		open(t, "P4.2: too great again", d, then)
		if want != api.OK {
			save(t, "P4.2: what has room", h, state(3, 4), api.OK)
			open(t, "P4.2: what has room", d, state(3, 4))
		}
	}
}

// TestOtherFiles: a disk has other files, which aren't touched; nor are names that are like a slot's any.
func TestOtherFiles(t *testing.T) {
	d := space(t, 500)
	others := []string{"agent", "hard", "hard-", "hard-00", "hard-2", "hard-10", "seg-0000000001", "zz"}
	for _, name := range others {
		lay(t, d, name, laid(99, 99, 99))
	}
	if d.Append("zz", []byte("loose")) != api.OK {
		t.Fatal("P3.2")
	}
	h := open(t, "P4.1: other files", d, none)
	for i := range 5 {
		save(t, "P4.2: other files", h, state(i, 5), api.OK)
	}
	open(t, "P4.1: other files", d, state(4, 5))
	for _, name := range others[:7] {
		has(t, "P4.2: other files", d, name, laid(99, 99, 99))
	}
	if b, _ := d.Read("zz"); string(b) != string(laid(99, 99, 99))+"loose" || d.Safe("zz") != len(b)-5 {
		t.Errorf("P4.2: another file was touched: %x, %d safe", b, d.Safe("zz"))
	}
	if names := d.Names(); !slices.Equal(names, []string{"agent", "hard", "hard-", "hard-0", "hard-00", "hard-1", "hard-10", "hard-2", "seg-0000000001", "zz"}) {
		t.Errorf("P4.2: the files are %q", names)
	}
}

// TestManyFiles: where no other file may be, the first Save has no room, and one for whose slot there is a file has.
func TestManyFiles(t *testing.T) {
	d := space(t, 99)
	for i := range 4095 {
		if d.Append(fmt.Sprintf("f%04d", i)) != api.OK {
			t.Fatal("P3.2")
		}
	}
	h := open(t, "P4.1", d, none)
	save(t, "P4.2: the last file", h, state(1, 1), api.OK)
	save(t, "P4.2: no file is left", h, state(2, 1), api.ErrFull)
	open(t, "P4.2: no file is left", d, state(1, 1))
	if d.Rename("f0000", "hard-1") != api.OK {
		t.Fatal("P3.3")
	}
	save(t, "P4.2: the slot's own file", h, state(2, 1), api.OK)
	open(t, "P4.2: the slot's own file", d, state(2, 1))
}

// TestTwoOfADisk: which slot is written, and its count, are the disk's at that moment, whoever wrote it.
func TestTwoOfADisk(t *testing.T) {
	d := space(t, 99)
	a, b := open(t, "P4.1", d, none), open(t, "P4.1", d, none)
	save(t, "P4.2", a, state(1, 1), api.OK)
	if b.State != none {
		t.Errorf("P4.1: it has %v, and nothing was saved", b.State)
	}
	save(t, "P4.2", b, state(1, 2), api.OK)
	has(t, "P4.2", d, "hard-0", laid(1, 1, 2))
	has(t, "P4.2", d, "hard-1", laid(2, 1, 3))
	save(t, "P4.2", a, state(1, 2), api.ErrArg)
	save(t, "P4.2: the same state", a, state(1, 1), api.OK)
	open(t, "P4.2: and nothing was written", d, state(1, 2))
	other := space(t, 99)
	open(t, "rule 7: another disk", other, none)
	if got := tell(other); got != "99" {
		t.Errorf("rule 7: another disk has %s", got)
	}
}

// TestFollowsKeeps: what is handed in isn't changed.
func TestFollowsKeeps(t *testing.T) {
	elder := []api.State{state(1, 2), state(3, 4), state(5, 6)}
	hard.Follows(state(4, 4), elder[:2]...)
	hard.Follows(state(0, 0), elder[:2]...)
	if !slices.Equal(elder, []api.State{state(1, 2), state(3, 4), state(5, 6)}) {
		t.Errorf("rule 5: the states handed in are changed: %v", elder)
	}
}

// TestSlotsTouched: slots that came about otherwise between two Saves are read anew.
func TestSlotsTouched(t *testing.T) {
	d := space(t, 99)
	h := open(t, "P4.1", d, none)
	save(t, "P4.2", h, state(1, 1), api.OK)
	save(t, "P4.2", h, state(2, 1), api.OK)
	if d.Cut("hard-1", 5) != api.OK {
		t.Fatal("P3.3")
	}
	save(t, "P4.2: the newest was torn", h, state(3, 1), api.OK)
	has(t, "P4.2: the newest was torn", d, "hard-0", laid(1, 1, 2))
	has(t, "P4.2: the newest was torn", d, "hard-1", laid(2, 3, 2))
	if d.Remove("hard-0", "hard-1") != api.OK {
		t.Fatal("P3.3")
	}
	save(t, "P4.2: the slots are gone", h, state(4, 1), api.OK)
	has(t, "P4.2: the slots are gone", d, "hard-0", laid(1, 4, 2))
	has(t, "P4.2: the slots are gone", d, "hard-1", nil)
}
