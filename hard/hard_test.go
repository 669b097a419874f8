package hard_test

import (
	"fmt"
	"hash/crc32"
	"math"
	"testing"

	"echelon/api"
	"echelon/disk"
	"echelon/hard"
)

const big = 1 << 62

// number is a number's form, laid without the layer that is called.
func number(n uint64) []byte {
	var b []byte
	for ; n > 0; n >>= 8 {
		b = append([]byte{byte(n)}, b...)
	}
	return append([]byte{byte(len(b))}, b...)
}

// sealed is bytes with their sum ahead of them.
func sealed(b []byte) []byte {
	s := crc32.Checksum(b, crc32.MakeTable(crc32.Castagnoli))
	return append([]byte{byte(s >> 24), byte(s >> 16), byte(s >> 8), byte(s)}, b...)
}

// laid is a row of numbers behind its sum: of three of them, what a slot has.
func laid(ns ...uint64) []byte {
	var b []byte
	for _, n := range ns {
		b = append(b, number(n)...)
	}
	return sealed(b)
}

// state is a Term and a Vote.
func state(term, vote int) api.State { return api.State{Term: term, Vote: vote} }

var none = state(0, -1)

// space is an empty disk.
func space(t *testing.T, room int) *disk.Disk {
	t.Helper()
	d, e := disk.New(room)
	if d == nil || e != api.OK {
		t.Fatalf("P3.1: New(%d): %d", room, e)
	}
	return d
}

// lay is a file with these bytes, safe; nil: none.
func lay(t *testing.T, d *disk.Disk, name string, b []byte) {
	t.Helper()
	if b == nil {
		return
	}
	if d.Append(name, b) != api.OK || d.Sync(name) != api.OK {
		t.Fatalf("P3.2: %s can't be laid", name)
	}
}

// open is a Hard of a disk that has that state.
func open(t *testing.T, what string, d *disk.Disk, s api.State) *hard.Hard {
	t.Helper()
	if got := hard.On(d); got != s {
		t.Fatalf("%s: On: %v, not %v", what, got, s)
	}
	h, e := hard.Open(d)
	if h == nil || e != api.OK || h.State != s || h.Term != s.Term || h.Vote != s.Vote {
		t.Fatalf("%s: Open: %v, %d, not %v", what, h, e, s)
	}
	return h
}

// save holds Save's answer against the one that is to come, and what h has then.
func save(t *testing.T, what string, h *hard.Hard, s api.State, want api.Errno) {
	t.Helper()
	then := h.State
	if want == api.OK {
		then = s
	}
	if e := h.Save(s); e != want || h.State != then {
		t.Fatalf("%s: Save(%v): %d, not %d, and it has %v, not %v", what, s, e, want, h.State, then)
	}
}

// tell is all of a disk that can be read: each file's bytes, a bar behind those that are safe, and what is free.
func tell(d *disk.Disk) string {
	s := ""
	for _, name := range d.Names() {
		b, _ := d.Read(name)
		n := d.Safe(name)
		s += fmt.Sprintf("%s=%x|%x ", name, b[:n], b[n:])
	}
	return s + fmt.Sprint(d.Free())
}

// has holds a file's bytes, all of them safe, against what they are to be; nil: it isn't there.
func has(t *testing.T, what string, d *disk.Disk, name string, want []byte) {
	t.Helper()
	b, ok := d.Read(name)
	if ok != (want != nil) || string(b) != string(want) || d.Safe(name) != len(b) {
		t.Fatalf("%s: %s has %x, %t, %d of it safe, not %x", what, name, b, ok, d.Safe(name), want)
	}
}

func TestFollows(t *testing.T) {
	for _, c := range []struct {
		s     api.State
		elder []api.State
		want  bool
	}{
		{none, nil, true},
		{state(0, 0), nil, true},
		{state(0, 7), nil, true},
		{state(5, -1), nil, true},
		{state(math.MaxInt, math.MaxInt), nil, true},
		{state(-1, 0), nil, false},
		{state(-1, -1), nil, false},
		{state(math.MinInt, 3), nil, false},
		{state(0, -2), nil, false},
		{state(9, math.MinInt), nil, false},
		{none, []api.State{none}, true},
		{state(0, 0), []api.State{none}, true},
		{state(0, 4), []api.State{none}, true},
		{none, []api.State{state(0, 0)}, false},
		{state(3, 1), []api.State{state(3, 1)}, true},
		{state(3, 2), []api.State{state(3, 1)}, false},
		{state(3, 0), []api.State{state(3, 1)}, false},
		{state(3, -1), []api.State{state(3, 1)}, false},
		{state(3, -1), []api.State{state(3, 0)}, false},
		{state(3, 0), []api.State{state(3, -1)}, true},
		{state(3, math.MaxInt), []api.State{state(3, -1)}, true},
		{state(4, 2), []api.State{state(3, 1)}, true},
		{state(4, -1), []api.State{state(3, 1)}, true},
		{state(2, 1), []api.State{state(3, 1)}, false},
		{state(2, 1), []api.State{state(3, -1)}, false},
		{state(math.MaxInt, 0), []api.State{state(math.MaxInt-1, 3)}, true},
		{state(4, 1), []api.State{state(3, 1), state(4, -1), state(4, 1), none}, true},
		{state(4, 1), []api.State{state(4, 2), state(3, 1), state(3, 1)}, false},
		{state(4, 1), []api.State{state(3, 1), state(4, 2), state(3, 1)}, false},
		{state(4, 1), []api.State{state(3, 1), state(3, 1), state(5, -1)}, false},
		{state(-1, 0), []api.State{state(-1, 0)}, false}, // the same, but no state
		{state(0, -2), []api.State{state(0, -2)}, false},
		{state(5, -2), []api.State{none}, false},
	} {
		if got := hard.Follows(c.s, c.elder...); got != c.want {
			t.Errorf("P4.1: Follows(%v, %v): %t", c.s, c.elder, got)
		}
	}
}

func TestOpenNew(t *testing.T) {
	if h, e := hard.Open(nil); h != nil || e != api.ErrNil {
		t.Errorf("P4.1: Open(nil): %v, %d", h, e)
	}
	if s := hard.On(nil); s != none {
		t.Errorf("P4.1: On(nil): %v", s)
	}
	for _, room := range []int{0, 1, 50} {
		d := space(t, room)
		open(t, "P4.1: an empty disk", d, none)
		if got := tell(d); got != fmt.Sprint(room) {
			t.Errorf("P4.1: Open wrote: %s", got)
		}
	}
}

// TestOpenStopped: Open and On only read: a disk that has stopped has its state as well.
func TestOpenStopped(t *testing.T) {
	d := space(t, 50)
	lay(t, d, "hard-0", laid(1, 2, 3))
	all := tell(d)
	d.Stop(0)
	h := open(t, "P4.1: stopped", d, state(2, 2))
	save(t, "P4.2: stopped", h, state(3, 1), api.ErrStop)
	save(t, "P4.2: stopped, the same state", h, state(2, 2), api.OK)
	save(t, "P4.2: stopped, and it may not follow", h, state(2, 1), api.ErrArg)
	if got := tell(d); got != all {
		t.Errorf("P4.2: there is %s, not %s", got, all)
	}
}

// TestSlot: which bytes of a file are a slot's that is whole, and what they say.
func TestSlot(t *testing.T) {
	for _, c := range []struct {
		b    []byte
		want api.State
	}{
		{laid(1, 0, 0), none},
		{laid(1, 0, 1), state(0, 0)},
		{laid(1, 5, 0), state(5, -1)},
		{laid(1, 5, 1), state(5, 0)},
		{laid(1, 5, 8), state(5, 7)},
		{laid(300, 256, 257), state(256, 256)},
		{laid(1, big-1, 9), state(big-1, 8)},
		{laid(1, big, 9), none},
		{laid(1, math.MaxUint64, 9), none},
		{laid(1, 1<<63, 9), none},
		{laid(1, 9, big-1), state(9, big-2)},
		{laid(1, 9, big), state(9, big-1)},
		{laid(1, 9, big+1), none},
		{laid(1, 9, 1<<63), none},
		{laid(1, 9, math.MaxUint64), none},
		{laid(0, 9, 9), none},
		{laid(big-2, 9, 9), state(9, 8)},
		{laid(big-1, 9, 9), state(9, 8)},
		{laid(big, 9, 9), none},
		{laid(1<<63, 9, 9), none},
		{laid(math.MaxUint64, 9, 9), none},
		{laid(big-1, big-1, big), state(big-1, big-1)},
		{laid(1, 9), none},       // a number too few
		{laid(1, 9, 9, 9), none}, // and too many
		{laid(1, 9, 9, 0), none},
		{laid(), none},
		{[]byte{}, none},
		{[]byte{0}, none},
		{[]byte{0, 0, 0}, none},
		{[]byte{0, 0, 0, 0}, none},
		{append(laid(1, 9, 9), 0), none},
		{append([]byte{0}, laid(1, 9, 9)...), none},
		{sealed(append(laid(1, 9, 9)[4:], 0)), none},            // a byte behind the row, under the sum
		{sealed([]byte{1, 1, 1, 9}), none},                      // it ends ahead of the third number
		{sealed([]byte{1, 1, 1, 9, 1}), none},                   // and within it
		{sealed([]byte{1, 1, 2, 0, 9, 1, 9}), none},             // a number with a 0 ahead
		{sealed([]byte{1, 0, 1, 9, 1, 9}), none},                // the same of the count
		{sealed([]byte{1, 1, 9, 0, 0, 0, 0, 0, 0, 0, 0}), none}, // a number of nine bytes
		{laid(1, 9, 9)[4:], none},                               // without a sum
	} {
		for _, name := range []string{"hard-0", "hard-1"} {
			d := space(t, 99)
			lay(t, d, name, c.b)
			open(t, fmt.Sprintf("P4.1: %s is %x", name, c.b), d, c.want)
		}
	}
}

// TestSlotTurned: a slot of which a bit is turned, or bytes are missing, is none; then the other one's state is the disk's.
func TestSlotTurned(t *testing.T) {
	whole := laid(5, 700, 3)
	for _, elder := range [][]byte{nil, laid(4, 600, 2)} {
		want := none
		if elder != nil {
			want = state(600, 1)
		}
		for i := range len(whole) * 8 {
			d := space(t, 99)
			b := append([]byte{}, whole...)
			b[i/8] ^= 1 << (i % 8)
			lay(t, d, "hard-1", b)
			lay(t, d, "hard-0", elder)
			open(t, fmt.Sprintf("P4.1: bit %d is turned", i), d, want)
		}
		for i := range whole {
			d := space(t, 99)
			lay(t, d, "hard-1", whole[:i:i])
			lay(t, d, "hard-0", elder)
			open(t, fmt.Sprintf("P4.1: %d bytes are there", i), d, want)
			d = space(t, 99)
			lay(t, d, "hard-1", append([]byte{}, whole[i+1:]...))
			lay(t, d, "hard-0", elder)
			open(t, fmt.Sprintf("P4.1: %d bytes are gone ahead", i+1), d, want)
		}
	}
	back := []byte{whole[3], whole[2], whole[1], whole[0]}
	d := space(t, 99)
	lay(t, d, "hard-0", append(back, whole[4:]...))
	open(t, "P4.1: the sum's least byte first", d, none)
}

// TestNewest: of two slots, which one is the disk's, and which is written then.
func TestNewest(t *testing.T) {
	torn := laid(9, 9, 9)[:6]
	for _, c := range []struct {
		zero, one []byte
		has       api.State
		name      string // the slot that is written
		count     uint64
	}{
		{nil, nil, none, "hard-0", 1},
		{torn, nil, none, "hard-0", 1},
		{nil, torn, none, "hard-0", 1},
		{torn, torn, none, "hard-0", 1},
		{[]byte{}, []byte{}, none, "hard-0", 1},
		{laid(0, 9, 9), laid(0, 8, 8), none, "hard-0", 1},
		{laid(1, 9, 9), nil, state(9, 8), "hard-1", 2},
		{nil, laid(1, 9, 9), state(9, 8), "hard-0", 2},
		{laid(7, 9, 9), torn, state(9, 8), "hard-1", 8},
		{torn, laid(7, 9, 9), state(9, 8), "hard-0", 8},
		{laid(7, 9, 9), []byte{}, state(9, 8), "hard-1", 8},
		{laid(7, 9, 9), laid(0, 99, 99), state(9, 8), "hard-1", 8},
		{laid(7, 9, 9), laid(big, 99, 99), state(9, 8), "hard-1", 8},
		{laid(big, 99, 99), laid(7, 9, 9), state(9, 8), "hard-0", 8},
		{laid(7, 9, 9), laid(6, 99, 99), state(9, 8), "hard-1", 8}, // the count says it, not the term
		{laid(6, 99, 99), laid(7, 9, 9), state(9, 8), "hard-0", 8},
		{laid(300, 9, 9), laid(30, 99, 99), state(9, 8), "hard-1", 301},
		{laid(255, 9, 9), laid(256, 5, 5), state(5, 4), "hard-0", 257},
		{laid(7, 9, 9), laid(7, 99, 99), state(9, 8), "hard-1", 8}, // with the same count the first one
		{laid(7, 0, 0), laid(7, 99, 99), none, "hard-1", 8},
		{laid(1, 0, 0), nil, none, "hard-1", 2}, // whole, and it says what an empty disk has
		{laid(big-3, 8, 9), laid(big-2, 9, 9), state(9, 8), "hard-0", big - 1},
		{laid(big-1, 9, 9), laid(big-2, 8, 9), state(9, 8), "hard-1", big},
		{laid(big-2, 8, 9), laid(big-1, 9, 9), state(9, 8), "hard-0", big},
	} {
		d := space(t, 999)
		lay(t, d, "hard-0", c.zero)
		lay(t, d, "hard-1", c.one)
		what := fmt.Sprintf("hard-0 %x, hard-1 %x", c.zero, c.one)
		h := open(t, "P4.1: "+what, d, c.has)
		save(t, "P4.2: "+what, h, state(500, 3), api.OK)
		now, stays, other := laid(c.count, 500, 4), c.one, "hard-1"
		if c.name == "hard-1" {
			stays, other = c.zero, "hard-0"
		}
		has(t, "P4.2: it is written: "+what, d, c.name, now)
		has(t, "P4.2: it stays: "+what, d, other, stays)
		if c.count < big {
			open(t, "P4.2: behind it: "+what, d, state(500, 3))
		} else {
			open(t, "P4.2: a count too great isn't whole: "+what, d, c.has)
		}
	}
}

// TestCountEnds: behind the last count what is written isn't whole, and the slot that is stays as it is.
func TestCountEnds(t *testing.T) {
	d := space(t, 99)
	lay(t, d, "hard-0", laid(big-2, 5, 0))
	h := open(t, "P4.1", d, state(5, -1))
	save(t, "P4.2: to the last count", h, state(6, 2), api.OK)
	open(t, "P4.2: the last count", d, state(6, 2))
	for i := range 3 {
		save(t, "P4.2: above the last count", h, state(7+i, 0), api.OK)
		has(t, "P4.2", d, "hard-1", laid(big-1, 6, 3))
		has(t, "P4.2", d, "hard-0", laid(big, uint64(7+i), 1))
		open(t, "P4.2: above the last count", d, state(6, 2))
	}
}
