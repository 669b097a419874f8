package shelf_test

import (
	"fmt"
	"slices"
	"strings"
	"testing"

	"echelon/api"
	"echelon/disk"
	"echelon/shelf"
)

// TestExample is the chapter's.
func TestExample(t *testing.T) {
	d := space(t, 200)
	s := open(t, "P6.2", d)
	is(t, "P6.3", s.Put(snap(5, 1, "abc")), api.OK)
	is(t, "P6.3", s.Put(snap(5, 2, "")), api.ErrArg)
	has(t, "P6.4", s, snap(5, 1, "abc"))
	d.Stop(2)
	is(t, "P6.3", s.Put(snap(9, 1, "")), api.ErrStop)
	d.Crash()
	s = open(t, "P6.5", d)
	has(t, "P6.5", s, snap(5, 1, "abc"))
	is(t, "P6.3", s.Clean(), api.OK)
	files(t, "P6.3", d, "snap-0000000005", string(laid(snap(5, 1, "abc"))))
}

func TestOpenNew(t *testing.T) {
	if s, e := shelf.Open(nil); s != nil || e != api.ErrNil {
		t.Errorf("P6.2: Open(nil): %v, %d", s, e)
	}
	for _, room := range []int{0, 1, 50} {
		d := space(t, room)
		hasNone(t, "P6.4: an empty disk", open(t, "P6.2", d))
		kept(t, "P6.2: Open wrote", d, fmt.Sprint(room))
	}
}

// TestOpenWhole: which file is whole: its bytes are a snapshot's, and its name says that one's Index.
func TestOpenWhole(t *testing.T) {
	good := snap(7, 2, "good")
	whole := laid(good)
	for _, c := range []struct {
		name string
		b    []byte
		want bool
	}{
		{name(7), whole, true},
		{name(7), laid(api.Snap{Mark: api.Mark{Index: 7, Term: 2}}), false}, // whole, but another one
		{name(7), nil, false},
		{name(7), whole[:3], false},
		{name(7), whole[:4], false},
		{name(7), whole[:len(whole)-1], false},
		{name(7), whole[4:], false},
		{name(7), append(slices.Clone(whole), 0), false},
		{name(7), sealed(append(slices.Clone(whole[4:]), 0)), false},
		{name(7), []byte("junk"), false},
		{name(6), whole, false}, // another Index than its name says
		{name(8), whole, false},
		{name(0), whole, false},
		{name(7000000000), whole, false},
		{aside, whole, false},
		{"snap-", whole, false},
		{"snap-7", whole, false},
		{"snap-000000007", whole, false},
		{"snap-00000000007", whole, false},
		{"snap-0000000007.", whole, false},
		{"snap-000000000a", whole, false},
		{"snap-00000000-7", whole, false},
		{"snap--000000007", whole, false},
		{"snap.0000000007", whole, false},
		{"snap0000000007", whole, false},
		{"snop-0000000007", whole, false},
		{"seg-0000000007", whole, false},
		{"0000000007", whole, false},
		{"a-snap-0000000007", whole, false},
		{"snap-snap-0000000007", whole, false},
	} {
		d := space(t, 200)
		lay(t, d, c.name, c.b)
		all := tell(d)
		s := open(t, "P6.2: "+c.name, d)
		if x, ok := s.Newest(); (ok && same(x, good)) != c.want {
			t.Errorf("P6.2: %s with %x: Newest: %v, %t", c.name, c.b, x, ok)
		}
		kept(t, "P6.2: Open wrote", d, all)
	}
}

// TestOpenBounds: a file is whole whose snapshot's Index and Term are from 1 on and below 10^10, and none else, though its name says the same.
func TestOpenBounds(t *testing.T) {
	for _, index := range []int{0, 1, top - 1} {
		for _, term := range []int{-1, 0, 1, top - 1, top} {
			d := space(t, 200)
			x := snap(index, term, "x")
			lay(t, d, name(index), laid(x))
			s := open(t, "P6.2", d)
			if !may(index) || !may(term) {
				x = api.Snap{}
			}
			holds(t, fmt.Sprintf("P6.2: a file of (%d, %d)", index, term), s, x)
		}
	}
	d := space(t, 200)
	lay(t, d, fmt.Sprintf("snap-%d", top), laid(snap(top, 1, "x")))
	lay(t, d, name(0), laid(snap(-1, 1, "x")))
	hasNone(t, "P6.2: Indexes that no name says", open(t, "P6.2", d))
}

// TestOpenGreatest: of several whole files the one with the greatest Index is the newest, in whichever order they were laid, and whatever stands beside them.
func TestOpenGreatest(t *testing.T) {
	for _, order := range [][]int{{3, 20, 100}, {100, 20, 3}, {20, 100, 3}} {
		d := space(t, 900)
		for _, i := range order {
			lay(t, d, name(i), laid(snap(i, 200-i, fmt.Sprint(i))))
		}
		has(t, "P6.2: the greatest Index, not the greatest Term", open(t, "P6.2", d), snap(100, 100, "100"))
		for _, junk := range []string{name(101), name(top - 1), name(99), name(0), aside, "snap-99999999999", "zz"} {
			lay(t, d, junk, []byte("junk"))
		}
		lay(t, d, name(500), laid(snap(501, 1, "")))
		all := tell(d)
		has(t, "P6.2: greater ones aren't whole", open(t, "P6.2", d), snap(100, 100, "100"))
		is(t, "P3.3", d.Cut(name(100), 9), api.OK)
		has(t, "P6.2: the greatest was cut", open(t, "P6.2", d), snap(20, 180, "20"))
		is(t, "P3.3", d.Remove(name(20)), api.OK)
		has(t, "P6.2: the next was removed", open(t, "P6.2", d), snap(3, 197, "3"))
		is(t, "P3.3", d.Rename(name(3), name(4)), api.OK)
		hasNone(t, "P6.2: the last has another one's name", open(t, "P6.2", d))
		if all == tell(d) {
			t.Error("P6.2: nothing was done")
		}
	}
}

// TestOpenStopped: Open, Newest and Has only read: a disk that has stopped has its snapshots as well.
func TestOpenStopped(t *testing.T) {
	d := space(t, 200)
	lay(t, d, name(5), laid(snap(5, 1, "abc")))
	lay(t, d, name(4), []byte("junk"))
	lay(t, d, aside, []byte("left"))
	all := tell(d)
	d.Stop(0)
	s := open(t, "P6.2: stopped", d)
	has(t, "P6.2: stopped", s, snap(5, 1, "abc"))
	is(t, "P6.3: stopped", s.Put(snap(6, 1, "")), api.ErrStop)
	is(t, "P6.3: stopped", s.Put(snap(5, 1, "")), api.ErrArg)
	is(t, "P6.3: stopped", s.Clean(), api.ErrStop)
	has(t, "P6.2: stopped", s, snap(5, 1, "abc"))
	kept(t, "P6.3: stopped", d, all)
}

// TestOpenLoose: what a file has counts, safe or not; behind a crash what is left of it.
func TestOpenLoose(t *testing.T) {
	for keep := range 20 { // (8, 1) has 16 bytes
		d := space(t, 200)
		lay(t, d, name(5), laid(snap(5, 1, "")))
		is(t, "P3.2", d.Append(name(8), laid(snap(8, 1, "abc"))), api.OK)
		has(t, "P6.2: a file that isn't safe", open(t, "P6.2", d), snap(8, 1, "abc"))
		d.Crash(0, keep)
		want := snap(5, 1, "")
		if keep >= 16 {
			want = snap(8, 1, "abc")
		}
		has(t, fmt.Sprintf("P6.5: Crash(0, %d)", keep), open(t, "P6.2", d), want)
	}
}

// TestMemory: what is handed in is neither changed nor kept, and answers are new memory.
func TestMemory(t *testing.T) {
	d := space(t, 200)
	s := open(t, "P6.2", d)
	spare := []byte("cbxyz")
	is(t, "P6.3", s.Put(api.Snap{Mark: api.Mark{Index: 1, Term: 1}, Conf: spare[:1], Body: spare[1:2]}), api.OK)
	if string(spare) != "cbxyz" {
		t.Fatalf("rule 5: Put changed what was handed in: %s", spare)
	}
	copy(spare, "XXXXX")
	for _, what := range []string{"Put", "Open"} {
		for range 2 {
			x, ok := s.Newest()
			if !ok || string(x.Conf) != "c" || string(x.Body) != "b" {
				t.Fatalf("P6.4: behind %s: Newest: %v, %t", what, x, ok)
			}
			_ = append(x.Conf, "over"...)
			if string(x.Body) != "b" {
				t.Fatal("rule 5: a snapshot's Conf and its Body share memory")
			}
			x.Conf[0], x.Body[0] = 'Y', 'Y'
		}
		s = open(t, "P6.2", d)
	}
	files(t, "P6.3", d, name(1), string(laid(snap(1, 1, "b"))))
}

// TestTwoDisks: shelves of other disks have nothing in common.
func TestTwoDisks(t *testing.T) {
	d, other := space(t, 99), space(t, 99)
	a, b := open(t, "P6.2", d), open(t, "P6.2", other)
	is(t, "P6.3", a.Put(snap(3, 1, "a")), api.OK)
	hasNone(t, "rule 7: another disk's", b)
	is(t, "P6.3", b.Put(snap(2, 1, "b")), api.OK)
	has(t, "rule 7", a, snap(3, 1, "a"))
	has(t, "rule 7", b, snap(2, 1, "b"))
	files(t, "rule 7", other, name(2), string(laid(snap(2, 1, "b"))))
}

// TestGreat: bodies of many bytes are kept as others are.
func TestGreat(t *testing.T) {
	d := space(t, 1<<24)
	s := open(t, "P6.2", d)
	x := api.Snap{Mark: api.Mark{Index: top - 1, Term: top - 1}, Conf: []byte(strings.Repeat("cd", 1<<17)), Body: []byte(strings.Repeat("xyz", 1<<20))}
	is(t, "P6.3", s.Put(x), api.OK)
	has(t, "P6.4", s, x)
	d.Crash()
	has(t, "P6.5", open(t, "P6.2", d), x)
}

// others lays files that aren't a shelf's, some of which are nearly, and answers how they are told.
func others(t *testing.T, d *disk.Disk) []string {
	t.Helper()
	var want []string
	for _, s := range []string{"hard-0", "seg-0000000001", "snap", "snap-", "snap-00000000-1", "snap-00000000001", "snap-000000000a", "snap-000000001", "snap-new.", "snap-new2", "snap.0000000001", "snapx0000000001", "zz"} {
		lay(t, d, s, laid(snap(1, 1, s)))
		want = append(want, s, string(laid(snap(1, 1, s))))
	}
	return want
}

// withFiles are names and bytes with some more among them, the names rising.
func withFiles(all []string, more ...string) []string {
	rows := [][2]string{}
	for i, s := range slices.Concat(all, more) {
		if i%2 == 0 {
			rows = append(rows, [2]string{s})
		} else {
			rows[i/2][1] = s
		}
	}
	slices.SortFunc(rows, func(a, b [2]string) int { return strings.Compare(a[0], b[0]) })
	var out []string
	for _, r := range rows {
		out = append(out, r[0], r[1])
	}
	return out
}

// TestOtherFiles: other files of the disk count for nothing, and stay as they are.
func TestOtherFiles(t *testing.T) {
	d := space(t, 2000)
	rest := others(t, d)
	s := open(t, "P6.2: other files", d)
	hasNone(t, "P6.2: other files", s)
	is(t, "P6.3: other files", s.Clean(), api.OK)
	files(t, "P6.3: Clean of other files", d, rest...)
	for _, i := range []int{1, 2, top - 1} {
		is(t, "P6.3: other files", s.Put(snap(i, 1, "x")), api.OK)
	}
	lay(t, d, aside, nil)
	is(t, "P6.3: other files", s.Clean(), api.OK)
	files(t, "P6.3: other files", d, withFiles(rest, name(top-1), string(laid(snap(top-1, 1, "x"))))...)
}
