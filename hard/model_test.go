package hard_test

import (
	"fmt"
	"math/rand"
	"slices"
	"testing"

	"echelon/api"
	"echelon/disk"
	"echelon/hard"
)

// said is what a slot says: count 0, if it isn't whole.
type said struct {
	count     uint64
	term, one uint64
}

// reads is what a file says, in the document's words, slow and plain: of all rows that may be meant the one whose bytes these are.
func reads(d *disk.Disk, name string) said {
	b, _ := d.Read(name)
	var ns []uint64
	for i := 4; i < len(b); i += 1 + int(b[i]) {
		n := uint64(0)
		for j := i + 1; j <= i+int(b[i]) && j < len(b); j++ {
			n = n<<8 | uint64(b[j])
		}
		ns = append(ns, n)
	}
	if len(ns) != 3 || string(laid(ns...)) != string(b) || ns[0] == 0 || ns[0] >= big || ns[1] >= big || ns[2] > big {
		return said{}
	}
	return said{ns[0], ns[1], ns[2]}
}

// model does on a disk of its own what the chapter says, call by call.
type model struct {
	d   *disk.Disk
	has api.State
}

func (m *model) newest() (said, string) {
	a, b := reads(m.d, "hard-0"), reads(m.d, "hard-1")
	switch {
	case a.count == 0 && b.count == 0:
		return said{}, "hard-0"
	case a.count < b.count:
		return b, "hard-0"
	}
	return a, "hard-1"
}

func (m *model) on() api.State {
	n, _ := m.newest()
	return state(int(n.term), int(n.one)-1)
}

func (m *model) save(s api.State) api.Errno {
	switch {
	case s.Term < 0 || s.Vote < -1, s.Term >= big, s.Vote >= big:
		return api.ErrArg
	case s.Term < m.has.Term:
		return api.ErrArg
	case s.Term == m.has.Term && s.Vote != m.has.Vote && m.has.Vote != -1:
		return api.ErrArg
	case s == m.has:
		return api.OK
	}
	n, name := m.newest()
	for _, f := range m.d.Names() {
		if f == name {
			if e := m.d.Remove(name); e != api.OK {
				return e
			}
		}
	}
	if e := m.d.Append(name, laid(n.count+1, uint64(s.Term), uint64(s.Vote+1))); e != api.OK {
		return e
	}
	if e := m.d.Sync(name); e != api.OK {
		return e
	}
	m.has = s
	return api.OK
}

// someState draws states, of which some are none, and most are near to one that is had.
func someState(r *rand.Rand, near api.State) api.State {
	if r.Intn(20) == 0 {
		return state(r.Intn(3)*(big-1)+r.Intn(2)-1, r.Intn(2)*(big-1)+r.Intn(3)-1)
	}
	return state(near.Term+r.Intn(5)-1, r.Intn(4)-1-r.Intn(20)/19)
}

// someBytes draws what a slot may have: whole, torn, turned.
func someBytes(r *rand.Rand) []byte {
	b := laid(uint64(r.Intn(8)), uint64(r.Intn(6)), uint64(r.Intn(4)))
	switch r.Intn(5) {
	case 0:
		b = b[:r.Intn(len(b))]
	case 1:
		b[r.Intn(len(b))] ^= 1 << r.Intn(8)
	case 2:
		b = append(b, 0)
	}
	return b
}

// pair is a Hard and the model, each on a disk of its own, on which the same is done.
type pair struct {
	h *hard.Hard
	d *disk.Disk
	m *model
}

func (p *pair) both(do func(d *disk.Disk)) {
	do(p.d)
	do(p.m.d)
}

// turn does one call on both, and tells it with both answers.
func (p *pair) turn(r *rand.Rand) (what string, got, want any) {
	name := fmt.Sprintf("hard-%d", r.Intn(2))
	switch r.Intn(16) {
	case 0:
		n := r.Intn(7) - 1
		p.both(func(d *disk.Disk) { d.Stop(n) })
		return fmt.Sprintf("Stop(%d)", n), 0, 0
	case 1, 2:
		keep := []int{r.Intn(20), r.Intn(20)}
		p.both(func(d *disk.Disk) { d.Crash(keep...) })
		return fmt.Sprintf("Crash(%d)", keep), 0, 0
	case 3:
		b := someBytes(r)
		p.both(func(d *disk.Disk) { d.Remove(name); d.Append(name, b); d.Sync(name) })
		return fmt.Sprintf("%s is %x", name, b), 0, 0
	case 4:
		n := r.Intn(20)
		p.both(func(d *disk.Disk) { d.Cut(name, n) })
		return fmt.Sprintf("Cut(%s, %d)", name, n), 0, 0
	case 5, 6:
		h, e := hard.Open(p.d)
		p.h, p.m.has = h, p.m.on()
		return "Open", fmt.Sprint(h.State, e), fmt.Sprint(p.m.has, api.OK)
	case 7:
		return "On", hard.On(p.d), p.m.on()
	}
	s := someState(r, p.h.State)
	return fmt.Sprintf("Save(%v)", s), fmt.Sprint(p.h.Save(s), p.h.State), fmt.Sprint(p.m.save(s), p.m.has)
}

// TestModel: of long rows of calls each answers as the model, and leaves the disk as it.
func TestModel(t *testing.T) {
	r := rand.New(rand.NewSource(4))
	for range 2000 {
		room := r.Intn(60)
		p := &pair{d: space(t, room), m: &model{d: space(t, room), has: none}}
		p.h = open(t, "P4.1", p.d, none)
		calls := ""
		for range 60 {
			what, got, want := p.turn(r)
			calls += what + " "
			if got != want || tell(p.d) != tell(p.m.d) {
				t.Fatalf("P4.1, P4.2: room %d: %s: %v, and there is %s, not %v, %s", room, calls, got, tell(p.d), want, tell(p.m.d))
			}
		}
	}
}

// TestCrashes: whatever stops and crashes come, the disk has what was saved last, or what was being saved behind it, and that may follow all that was saved.
func TestCrashes(t *testing.T) {
	r := rand.New(rand.NewSource(5))
	for range 3000 {
		d := space(t, 20+r.Intn(20))
		h := open(t, "P4.1", d, none)
		saved, may := []api.State{none}, []api.State{none}
		calls := ""
		for range 40 {
			if r.Intn(3) == 0 {
				d.Stop(r.Intn(5))
			}
			s := state(h.Term+r.Intn(2), r.Intn(3)-1)
			e := h.Save(s)
			calls += fmt.Sprintf("Save(%v) %d ", s, e)
			switch {
			case e == api.OK && s != saved[len(saved)-1]:
				saved, may = append(saved, s), []api.State{s}
			case e == api.ErrStop:
				may = append(may, s)
			}
			if e != api.ErrStop && r.Intn(4) > 0 {
				continue
			}
			keep := []int{r.Intn(16), r.Intn(16)}
			d.Crash(keep...)
			calls += fmt.Sprintf("Crash(%d) ", keep)
			now := hard.On(d)
			if !slices.Contains(may, now) || !hard.Follows(now, saved...) {
				t.Fatalf("P4.3: %s: %v, not one of %v, behind %v", calls, now, may, saved)
			}
			if r.Intn(2) == 0 {
				h = open(t, "P4.1", d, now)
				saved, may = append(saved, now), []api.State{now}
			}
		}
	}
}
