package disk_test

import (
	"bytes"
	"fmt"
	"math"
	"math/rand"
	"slices"
	"sort"
	"strings"
	"testing"

	"echelon/api"
	"echelon/disk"
)

// cell is a byte of the model's files: is it safe?
type cell struct {
	c    byte
	safe bool
}

// model is a disk in the document's words, slow and plain.
type model struct {
	room, calls int
	stops       bool
	names       []string // rising
	cells       [][]cell
}

func (m *model) at(name string) int { return slices.Index(m.names, name) }

func (m *model) free() int {
	n := m.room
	for _, f := range m.cells {
		n -= len(f)
	}
	return n
}

func (m *model) stopped() bool {
	if !m.stops {
		return false
	}
	m.calls--
	return m.calls < 0
}

func (m *model) remove(i int) {
	m.names = append(m.names[:i:i], m.names[i+1:]...)
	m.cells = append(m.cells[:i:i], m.cells[i+1:]...)
}

func (m *model) put(name string, f []cell) {
	i := sort.SearchStrings(m.names, name)
	m.names = slices.Insert(m.names, i, name)
	m.cells = slices.Insert(m.cells, i, f)
}

func nameIs(s string) bool {
	return len(s) > 0 && len(s) < 33 && strings.Trim(s, "abcdefghijklmnopqrstuvwxyz0123456789-.") == ""
}

func (m *model) append(name string, bs [][]byte) api.Errno {
	all := bytes.Join(bs, nil)
	switch i := m.at(name); {
	case m.stopped():
		return api.ErrStop
	case !nameIs(name):
		return api.ErrName
	case len(all) > m.free():
		return api.ErrFull
	case i < 0:
		m.put(name, nil)
	}
	for _, c := range all {
		m.cells[m.at(name)] = append(m.cells[m.at(name)], cell{c, false})
	}
	return api.OK
}

func (m *model) sync(names []string) api.Errno {
	if m.stopped() {
		return api.ErrStop
	}
	for _, s := range names {
		if m.at(s) < 0 {
			return api.ErrName
		}
	}
	for _, s := range names {
		for i := range m.cells[m.at(s)] {
			m.cells[m.at(s)][i].safe = true
		}
	}
	return api.OK
}

func (m *model) rename(from, to string) api.Errno {
	if m.stopped() {
		return api.ErrStop
	}
	i := m.at(from)
	if i < 0 || !nameIs(to) {
		return api.ErrName
	}
	f := m.cells[i]
	m.remove(i)
	if j := m.at(to); j >= 0 {
		m.remove(j)
	}
	m.put(to, f)
	return api.OK
}

func (m *model) removeAll(names []string) api.Errno {
	if m.stopped() {
		return api.ErrStop
	}
	for i, s := range names {
		if m.at(s) < 0 || slices.Contains(names[:i], s) {
			return api.ErrName
		}
	}
	for _, s := range names {
		m.remove(m.at(s))
	}
	return api.OK
}

func (m *model) cut(name string, n int) api.Errno {
	if m.stopped() {
		return api.ErrStop
	}
	i := m.at(name)
	if i < 0 {
		return api.ErrName
	}
	if n < 0 || n > len(m.cells[i]) {
		return api.ErrArg
	}
	m.cells[i] = m.cells[i][:n:n]
	return api.OK
}

func (m *model) crash(keep []int) int {
	gone := 0
	for i, f := range m.cells {
		var stays []cell
		k := 0
		if i < len(keep) {
			k = keep[i]
		}
		for _, c := range f {
			if !c.safe && k <= 0 {
				gone++
				continue
			}
			if !c.safe {
				k--
			}
			stays = append(stays, cell{c.c, true})
		}
		m.cells[i] = stays
	}
	m.stops = false
	return gone
}

func (m *model) tell() string {
	s := ""
	for i, name := range m.names {
		safe, loose := "", ""
		for _, c := range m.cells[i] {
			if c.safe {
				safe += string(c.c)
			} else {
				loose += string(c.c)
			}
		}
		s += fmt.Sprintf("%s=%s|%s ", name, safe, loose)
	}
	return s + fmt.Sprint(m.free())
}

// someNames draws names of which some are there, and some are none.
func someNames(r *rand.Rand, n int) []string {
	var out []string
	for range n {
		out = append(out, []string{"a", "b", "c", "d-1", "e.x", "", "A"}[r.Intn(7-r.Intn(2)*2)])
	}
	return out
}

func someNumber(r *rand.Rand) int {
	return []int{-1, 0, 1, 2, 3, 4, 6, 9, 30, -7, math.MaxInt, math.MinInt}[r.Intn(12)]
}

// turn does one call on both, and tells it with both answers.
func turn(r *rand.Rand, d *disk.Disk, m *model) (what string, got, want int) {
	names, n := someNames(r, 3), someNumber(r)
	switch r.Intn(10) {
	case 0, 1, 2:
		var bs [][]byte
		for range r.Intn(4) {
			bs = append(bs, []byte("abcdefghi")[r.Intn(5):][:r.Intn(5)])
		}
		return fmt.Sprintf("Append(%q, %q)", names[0], bs), int(d.Append(names[0], bs...)), int(m.append(names[0], bs))
	case 3:
		names = names[:r.Intn(4)]
		return fmt.Sprintf("Sync(%q)", names), int(d.Sync(names...)), int(m.sync(names))
	case 4:
		return fmt.Sprintf("Rename(%q)", names[:2]), int(d.Rename(names[0], names[1])), int(m.rename(names[0], names[1]))
	case 5:
		names = names[:r.Intn(4)]
		return fmt.Sprintf("Remove(%q)", names), int(d.Remove(names...)), int(m.removeAll(names))
	case 6, 7:
		return fmt.Sprintf("Cut(%q, %d)", names[0], n), int(d.Cut(names[0], n)), int(m.cut(names[0], n))
	case 8:
		d.Stop(n)
		m.stops, m.calls = n >= 0, n
		return fmt.Sprintf("Stop(%d)", n), 0, 0
	}
	var keep []int
	for range r.Intn(7) {
		keep = append(keep, someNumber(r))
	}
	return fmt.Sprintf("Crash(%d)", keep), d.Crash(keep...), m.crash(keep)
}

// TestModel: of long rows of calls each answers as the model, and leaves the disk as it.
func TestModel(t *testing.T) {
	r := rand.New(rand.NewSource(1))
	for range 1500 {
		room := r.Intn(40)
		d, m := open(t, room), &model{room: room}
		calls := ""
		for range 60 {
			what, got, want := turn(r, d, m)
			calls += what + " "
			if got != want || tell(d) != m.tell() {
				t.Fatalf("P3.2 to P3.5: room %d: %s: %d, and there is %q, not %d, %q", room, calls, got, tell(d), want, m.tell())
			}
		}
	}
}

// TestHandedIn: what is handed in isn't changed, its spare room included, and may be changed afterwards.
func TestHandedIn(t *testing.T) {
	d := open(t, 90)
	spare := []byte("123456789")
	bs := [][]byte{spare[:2], nil, spare[2:4], []byte("xyz")}
	want(t, "Append", d.Append("a", bs[:3]...), api.OK)
	want(t, "Append", d.Append("a", spare[4:5]), api.OK)
	want(t, "Append", d.Append("b", spare[:3]), api.OK)
	want(t, "Append", d.Append("b", []byte("!")), api.OK)
	if string(spare) != "123456789" || len(bs[0]) != 2 || bs[1] != nil || string(bs[3]) != "xyz" {
		t.Errorf("rule 5: the bytes handed in are changed: %s", spare)
	}
	for i := range spare {
		spare[i] = '?'
	}
	bs[0], bs[2] = nil, nil
	stands(t, "rule 5: bytes that were handed in, changed", d, "a=|12345 b=|123! 81")
	names := []string{"b", "a", "c"}
	want(t, "Sync", d.Sync(names[:2]...), api.OK)
	want(t, "Remove", d.Remove(names...), api.ErrName)
	want(t, "Remove", d.Remove(names[:2]...), api.OK)
	if !slices.Equal(names, []string{"b", "a", "c"}) {
		t.Errorf("rule 5: the names handed in are changed: %q", names)
	}
	lay(t, d, "a", "1", "234")
	keep := []int{2, -5, 7}
	d.Crash(keep[:2]...)
	if !slices.Equal(keep, []int{2, -5, 7}) {
		t.Errorf("rule 5: the numbers handed in are changed: %d", keep)
	}
}

// TestAnswers: an answer is new memory, which the disk doesn't touch, nor is it touched by it.
func TestAnswers(t *testing.T) {
	d := open(t, 90)
	lay(t, d, "a", "123", "456")
	lay(t, d, "b", "7", "")
	all := tell(d)
	x, _ := d.Read("a")
	y, _ := d.Read("a")
	for i := range x {
		x[i] = '?'
	}
	_ = append(x, "????????"...)
	_ = append(x[:1], "????????"...)
	names := d.Names()
	names[0], names[1] = "?", "?"
	stands(t, "rule 5: answers that were changed", d, all)
	want(t, "Cut", d.Cut("a", 2), api.OK)
	want(t, "Append", d.Append("a", []byte("xyzuvw")), api.OK)
	want(t, "Remove", d.Remove("b"), api.OK)
	if string(y) != "123456" || !slices.Equal(names, []string{"?", "?"}) {
		t.Errorf("rule 5: answers changed with the disk: %q, %q", y, names)
	}
	stands(t, "P3.3", d, "a=12|xyzuvw 82")
}

// TestOverwritten: a file that takes another one's name has its own bytes alone, both before and behind.
func TestOverwritten(t *testing.T) {
	d := open(t, 90)
	lay(t, d, "a", "12", "3")
	lay(t, d, "b", "45", "6")
	want(t, "Rename", d.Rename("a", "b"), api.OK)
	want(t, "Append", d.Append("a", []byte("x")), api.OK)
	want(t, "Append", d.Append("b", []byte("y")), api.OK)
	stands(t, "P3.3", d, "a=|x b=12|3y 85")
	want(t, "Rename", d.Rename("b", "a"), api.OK)
	stands(t, "P3.3", d, "a=12|3y 86")
}
