package segment_test

import (
	"fmt"
	"math"
	"slices"
	"testing"

	"echelon/api"
	"echelon/disk"
	"echelon/segment"
)

// begun is a new log behind a mark, with these entries, synced.
func begun(t *testing.T, room int, m api.Mark, size int, es ...api.Entry) (*segment.Log, *disk.Disk) {
	t.Helper()
	d := space(t, room)
	l := open(t, "P5.1", d, m, size)
	is(t, "P5.2: Append", l.Append(es...), api.OK)
	is(t, "P5.2: Sync", l.Sync(), api.OK)
	has(t, "P5.2", l, m, m.Index+len(es), es...)
	return l, d
}

// TestExamples are the chapter's.
func TestExamples(t *testing.T) {
	l := open(t, "P5.1", space(t, 999), mark(0, 0), 40)
	is(t, "Append", l.Append(some(1, 2, 1)...), api.OK)
	is(t, "Sync", l.Sync(), api.OK)
	is(t, "Append", l.Append(at(3, 2)), api.OK)
	is(t, "CutFrom", l.CutFrom(2), api.OK)
	is(t, "Append", l.Append(at(3, 1)), api.ErrArg)
	is(t, "DropTo", l.DropTo(mark(1, 1)), api.OK)
	if _, ok := l.At(1); ok {
		t.Error("At(1) is there")
	}
	if n, ok := l.Term(1); n != 1 || !ok {
		t.Errorf("Term(1): %d, %t", n, ok)
	}
}

// TestAppendWrong: what aren't the next entries; and that nothing changes then.
func TestAppendWrong(t *testing.T) {
	ahead := some(4, 5, 3)
	next := func(change func(e *api.Entry)) []api.Entry {
		e := at(6, 3)
		change(&e)
		return []api.Entry{e}
	}
	great := func(e *api.Entry) { e.Body = make([]byte, api.MaxBody+1) }
	for i, es := range [][]api.Entry{
		next(func(e *api.Entry) { e.Index = 5 }),
		next(func(e *api.Entry) { e.Index = 7 }),
		next(func(e *api.Entry) { e.Index = 4 }),
		next(func(e *api.Entry) { e.Index = 0 }),
		next(func(e *api.Entry) { e.Index = -6 }),
		next(func(e *api.Entry) { e.Index = math.MaxInt }),
		next(func(e *api.Entry) { e.Index = math.MinInt }),
		next(func(e *api.Entry) { e.Term = 2 }),
		next(func(e *api.Entry) { e.Term = 0 }),
		next(func(e *api.Entry) { e.Term = -1 }),
		next(func(e *api.Entry) { e.Term = math.MinInt }),
		next(func(e *api.Entry) { e.Term = top }),
		next(func(e *api.Entry) { e.Term = math.MaxInt }),
		next(func(e *api.Entry) { e.Kind = -1 }),
		next(func(e *api.Entry) { e.Kind = 256 }),
		next(func(e *api.Entry) { e.Kind = math.MaxInt }),
		next(func(e *api.Entry) { e.Kind = math.MinInt }),
		next(great),
		{{}},
		some(7, 8, 3),
		some(5, 6, 3),
		{at(6, 3), at(8, 3)},
		{at(6, 3), at(6, 3)},
		{at(7, 3), at(6, 3)},
		{at(6, 4), at(7, 3)},
		{at(6, 3), at(7, 4), at(8, 3)},
		append(some(6, 8, 3), at(9, 0)),
		append(some(6, 8, 3), api.Entry{Index: 9, Term: 3, Kind: 256}),
		append(some(6, 8, 3), api.Entry{Index: 9, Term: 3, Body: make([]byte, api.MaxBody+1)}),
	} {
		for _, room := range []int{34, 1 << 22} { // ErrArg comes ahead of ErrFull
			l, d := begun(t, room, mark(3, 2), 40, ahead...)
			all := tell(d)
			what := fmt.Sprintf("P5.2: wrong entries %d", i)
			is(t, what, l.Append(es...), api.ErrArg)
			d.Stop(0)
			is(t, what+", stopped", l.Append(es...), api.ErrArg)
			has(t, what, l, mark(3, 2), 5, ahead...)
			if got := tell(d); got != all {
				t.Fatalf("rule 3: %s: there is %s, not %s", what, got, all)
			}
		}
	}
}

// TestAppendBehindMark: behind a mark what may follow it is the next one.
func TestAppendBehindMark(t *testing.T) {
	for _, c := range []struct {
		m    api.Mark
		e    api.Entry
		want api.Errno
	}{
		{mark(0, 0), at(1, 1), api.OK},
		{mark(0, 0), at(1, 0), api.ErrArg},
		{mark(0, 0), at(0, 1), api.ErrArg},
		{mark(0, 0), at(2, 1), api.ErrArg},
		{mark(0, 4), at(1, 4), api.OK},
		{mark(0, 4), at(1, 3), api.ErrArg},
		{mark(8, 4), at(9, 4), api.OK},
		{mark(8, 4), at(9, 3), api.ErrArg},
		{mark(8, 4), at(1, 4), api.ErrArg},
		{mark(8, 0), at(9, 0), api.ErrArg},
		{mark(8, 0), at(9, 1), api.OK},
		{mark(8, top-1), at(9, top-1), api.OK},
		{mark(8, top-1), at(9, top), api.ErrArg},
		{mark(top-2, 1), at(top-1, 1), api.OK},
		{mark(top-1, 1), at(top, 1), api.ErrArg},
		{mark(8, 4), api.Entry{Index: 9, Term: 4, Kind: 0}, api.OK},
		{mark(8, 4), api.Entry{Index: 9, Term: 4, Kind: 255}, api.OK},
	} {
		d := space(t, 99)
		l := open(t, "P5.1", d, c.m, 1)
		what := fmt.Sprintf("P5.2: %v behind %v", c.e, c.m)
		is(t, what, l.Append(c.e), c.want)
		if c.want != api.OK {
			has(t, what, l, c.m, c.m.Index)
			named(t, what, d)
			continue
		}
		has(t, what, l, c.m, c.m.Index, c.e)
		is(t, what, l.Sync(), api.OK)
		files(t, what, d, seg(c.e.Index), string(rows(c.e)))
		has(t, what, open(t, what, d, c.m, 1), c.m, c.e.Index, c.e)
	}
}

// TestAppendNone: no entries are the next ones, whatever the disk has, and no segment is begun for them.
func TestAppendNone(t *testing.T) {
	d := space(t, 0)
	l := open(t, "P5.1", d, mark(3, 1), 1)
	d.Stop(0)
	is(t, "P5.2: no entries", l.Append(), api.OK)
	is(t, "P5.2: no entries", l.Append([]api.Entry{}...), api.OK)
	is(t, "P5.2: nothing was appended to", l.Sync(), api.OK)
	has(t, "P5.2: no entries", l, mark(3, 1), 3)
	named(t, "P5.2: no entries", d)
}

func TestAppendGreatBody(t *testing.T) {
	d := space(t, 3<<20)
	l := open(t, "P5.1", d, mark(0, 0), 1)
	e := at(1, 1, make([]byte, api.MaxBody)...)
	e.Body[0], e.Body[api.MaxBody-1] = 'a', 'z'
	is(t, "P5.2: the greatest Body", l.Append(e), api.OK)
	has(t, "P5.2: the greatest Body", l, mark(0, 0), 0, e)
	is(t, "P5.2: Sync", l.Sync(), api.OK)
	has(t, "P5.2: the greatest Body", open(t, "P5.1", d, mark(0, 0), 1), mark(0, 0), 1, e)
}

// TestAppendFull: rows that fill what is free to the byte, and one byte more; of the latter none is laid.
func TestAppendFull(t *testing.T) {
	for size := range 60 {
		for spare := -20; spare < 3; spare++ {
			d := space(t, 34+3+51+spare)
			lay(t, d, "x", []byte("xyz"))
			l := open(t, "P5.1", d, mark(0, 0), size+1)
			is(t, "P5.2", l.Append(some(1, 2, 1)...), api.OK)
			is(t, "P5.2", l.Sync(), api.OK)
			all, want, es := tell(d), api.OK, some(1, 5, 1)
			if spare < 0 {
				want, es = api.ErrFull, some(1, 2, 1)
			}
			what := fmt.Sprintf("P5.2: size %d, %d bytes more than there are rows", size, spare)
			is(t, what, l.Append(some(3, 5, 1)...), want)
			has(t, what, l, mark(0, 0), 2, es...)
			if got := tell(d); want != api.OK && got != all {
				t.Fatalf("%s: there is %s, not %s", what, got, all)
			}
			if spare < 0 {
				is(t, what+": what has room", l.Append(some(3, 4, 1)[:(51+spare)/17]...), api.OK)
			}
			d.Stop(0)
			if spare < 0 {
				is(t, what+": and stopped", l.Append(some(l.Last().Index+1, 9, 1)...), api.ErrFull)
			}
		}
	}
}

// TestAppendManyFiles: where no other file may be, the entries whose rows stand are the log's, and it goes on.
func TestAppendManyFiles(t *testing.T) {
	d := space(t, 999)
	for i := range api.MaxFiles - 2 {
		is(t, "P3.2", d.Append(fmt.Sprintf("f%04d", i)), api.OK)
	}
	l := open(t, "P5.1", d, mark(0, 0), 20)
	is(t, "P5.2: no file is left", l.Append(some(1, 6, 1)...), api.ErrFull)
	has(t, "P5.2: no file is left", l, mark(0, 0), 0, some(1, 4, 1)...)
	is(t, "P5.2: no file is left", l.Append(some(5, 5, 1)...), api.ErrFull)
	is(t, "P5.2: Sync", l.Sync(), api.OK)
	has(t, "P5.2: Sync", l, mark(0, 0), 4, some(1, 4, 1)...)
	is(t, "P3.3", d.Remove("f0000"), api.OK)
	is(t, "P5.2: one file is left", l.Append(some(5, 7, 1)...), api.ErrFull)
	has(t, "P5.2: one file is left", l, mark(0, 0), 4, some(1, 6, 1)...)
	is(t, "P5.2: Sync", l.Sync(), api.OK)
	is(t, "P5.3: a file is gone", l.DropTo(mark(2, 1)), api.OK)
	is(t, "P5.2: another one", l.Append(some(7, 7, 2)...), api.OK)
	has(t, "P5.2: another one", l, mark(2, 1), 6, append(some(3, 6, 1), some(7, 7, 2)...)...)
	b, _ := d.Read(seg(7))
	if string(b) != string(rows(some(7, 7, 2)...)) {
		t.Errorf("P5.2: the row is %x", b)
	}
}

// TestSegments: when a new segment begins, what its name is, and what it has.
func TestSegments(t *testing.T) {
	for _, c := range []struct {
		size int
		ends []int // the last Index of each segment
	}{
		{1, []int{1, 2, 3, 4, 5, 6, 7}},
		{16, []int{1, 2, 3, 4, 5, 6, 7}},
		{17, []int{1, 2, 3, 4, 5, 6, 7}},
		{18, []int{2, 4, 6, 7}},
		{34, []int{2, 4, 6, 7}}, // it reaches size to the byte
		{35, []int{3, 6, 7}},    // and it is one byte too few
		{51, []int{3, 6, 7}},
		{52, []int{4, 7}},
		{118, []int{7}},
		{119, []int{7}},
		{120, []int{7}},
		{math.MaxInt, []int{7}},
	} {
		es, first := some(1, 7, 1), 1
		var want []string
		for _, end := range c.ends {
			want = append(want, seg(first), string(rows(es[first-1:end]...)))
			first = end + 1
		}
		what := fmt.Sprintf("P5.2: size %d", c.size)
		for cut := range 8 { // in one call or in two, and opened anew between them
			d := space(t, 999)
			l := open(t, what, d, mark(0, 0), c.size)
			is(t, what, l.Append(es[:cut]...), api.OK)
			if cut%2 == 1 {
				l = open(t, what, d, mark(0, 0), c.size)
			}
			is(t, what, l.Append(es[cut:]...), api.OK)
			is(t, what, l.Sync(), api.OK)
			files(t, what, d, want...)
			has(t, what, l, mark(0, 0), 7, es...)
		}
	}
}

// TestOpenSize: an opened log goes by the size that it is opened with, not by that with which its segments were laid.
func TestOpenSize(t *testing.T) {
	_, d := begun(t, 999, mark(0, 0), 17, some(1, 3, 1)...)
	l := open(t, "P5.1", d, mark(0, 0), 50)
	is(t, "P5.2", l.Append(some(4, 6, 1)...), api.OK)
	named(t, "P5.2: a greater size", d, seg(1), seg(2), seg(3), seg(6))
	l = open(t, "P5.1", d, mark(0, 0), 1)
	is(t, "P5.2", l.Append(some(7, 7, 1)...), api.OK)
	named(t, "P5.2: a less size", d, seg(1), seg(2), seg(3), seg(6), seg(7))
}

// TestSync: all segments that were appended to since they were synced are, in one call; where there is none no call is made.
func TestSync(t *testing.T) {
	l, d := begun(t, 999, mark(0, 0), 30, some(1, 3, 1)...)
	d.Stop(0)
	is(t, "P5.2: nothing to sync", l.Sync(), api.OK)
	d.Stop(5)
	is(t, "P5.2", l.Append(some(4, 7, 1)...), api.OK)
	if d.Safe(seg(3)) != 17 || d.Safe(seg(5)) != 0 || d.Safe(seg(7)) != 0 || l.Synced() != 3 {
		t.Errorf("P5.2: synced ahead of Sync: %d, %s", l.Synced(), tell(d))
	}
	is(t, "P5.2: three segments, one call", l.Sync(), api.OK)
	has(t, "P5.2: three segments", l, mark(0, 0), 7, some(1, 7, 1)...)
	b := string(rows(some(1, 7, 1)...))
	files(t, "P5.2: three segments", d, seg(1), b[:34], seg(3), b[34:68], seg(5), b[68:102], seg(7), b[102:])
	is(t, "P5.2: no call is left", d.Append("x"), api.ErrStop)
	is(t, "P5.2: nothing to sync", l.Sync(), api.OK)
	is(t, "P5.2: stopped", l.Append(some(8, 8, 1)...), api.ErrStop)
}

// TestSyncStopped: a Sync that the disk didn't do isn't done.
func TestSyncStopped(t *testing.T) {
	l, d := begun(t, 999, mark(0, 0), 30, some(1, 1, 1)...)
	is(t, "P5.2", l.Append(some(2, 4, 1)...), api.OK)
	d.Stop(0)
	is(t, "P5.2: stopped", l.Sync(), api.ErrStop)
	is(t, "P5.2: stopped", l.Sync(), api.ErrStop)
	d.Crash()
	has(t, "P5.5", open(t, "P5.1", d, mark(0, 0), 30), mark(0, 0), 1, some(1, 1, 1)...)
}

// TestSyncCut: a segment that was appended to is synced, though that be cut away; one that is removed isn't.
func TestSyncCut(t *testing.T) {
	l, d := begun(t, 999, mark(0, 0), 30, some(1, 3, 1)...)
	is(t, "P5.2", l.Append(some(4, 5, 1)...), api.OK)
	is(t, "P5.3: the last segment", l.CutFrom(5), api.OK)
	d.Stop(1)
	is(t, "P5.2: without it", l.Sync(), api.OK)
	is(t, "P5.2: it was a call", d.Append("x"), api.ErrStop)
	d.Stop(-1)
	has(t, "P5.2: without it", l, mark(0, 0), 4, some(1, 4, 1)...)
	is(t, "P5.2", l.Append(some(5, 6, 1)...), api.OK)
	is(t, "P5.3: all that was appended", l.CutFrom(5), api.OK)
	d.Stop(0)
	is(t, "P5.2: nothing to sync", l.Sync(), api.OK)
	d.Stop(-1)
	is(t, "P5.3: an elder one", l.CutFrom(4), api.OK)
	is(t, "P5.2", l.Append(some(4, 4, 2)...), api.OK)
	is(t, "P5.3", l.CutFrom(4), api.OK)
	d.Stop(0)
	is(t, "P5.2: it was appended to", l.Sync(), api.ErrStop)
}

// TestMemory: what is handed in is neither changed nor kept, and an answer is new memory.
func TestMemory(t *testing.T) {
	l := open(t, "P5.1", space(t, 999), mark(0, 0), 30)
	room := []byte("abcdef")
	es := []api.Entry{at(1, 1, room[:2]...), {Index: 2, Term: 1, Body: room[2:4]}, at(3, 1), at(4, 1, 'x')}
	es[0].Body = room[:2]
	is(t, "P5.2", l.Append(es[:3]...), api.OK)
	if string(room) != "abcdef" || es[3].Index != 4 || string(es[1].Body) != "cd" {
		t.Errorf("rule 5: what is handed in is changed: %s, %v", room, es)
	}
	want := []api.Entry{at(1, 1, 'a', 'b'), {Index: 2, Term: 1, Body: []byte("cd")}, at(3, 1)}
	clear(room)
	clear(es)
	has(t, "rule 5: what was handed in is changed", l, mark(0, 0), 0, want...)
	got, one := l.From(1, 3), l.From(1, 1)
	e, _ := l.At(1)
	_ = append(got[0].Body, "yyyyyyyy"...)
	_ = append(one, at(2, 7, 'y'))
	got[0].Body[0], e.Body[1], got[1].Term = 'y', 'y', 9
	if string(one[0].Body) != "ab" || string(e.Body) != "ay" || string(got[1].Body) != "cd" {
		t.Errorf("rule 5: answers share: %v, %v, %v", got, one, e)
	}
	has(t, "rule 5: answers are changed", l, mark(0, 0), 0, want...)
	is(t, "P5.3", l.CutFrom(2), api.OK)
	is(t, "P5.2", l.Append(api.Entry{Index: 2, Term: 5, Body: []byte("zz")}), api.OK)
	if string(got[1].Body) != "cd" || string(got[0].Body) != "yb" {
		t.Errorf("rule 5: answers change with the log: %v", got)
	}
}

// TestTwoLogs: each has its own disk.
func TestTwoLogs(t *testing.T) {
	a, d := begun(t, 999, mark(0, 0), 30, some(1, 3, 1)...)
	all := tell(d)
	b, _ := begun(t, 999, mark(7, 2), 30, some(8, 9, 4)...)
	is(t, "P5.3", b.Reset(mark(1, 1)), api.OK)
	has(t, "rule 7: another log", a, mark(0, 0), 3, some(1, 3, 1)...)
	if got := tell(d); got != all {
		t.Errorf("rule 7: another log's disk: %s, not %s", got, all)
	}
}

// TestFromEnds: Indexes and counts at the ends of their type.
func TestFromEnds(t *testing.T) {
	l, _ := begun(t, 999, mark(3, 1), 30, some(4, 6, 1)...)
	for _, i := range []int{math.MinInt, math.MinInt + 1, -1, 0, 2, 3, 7, 8, math.MaxInt - 1, math.MaxInt} {
		if e, ok := l.At(i); ok || !same(e, api.Entry{}) {
			t.Errorf("P5.4: At(%d): %v, %t", i, e, ok)
		}
		if n, ok := l.Term(i); ok != (i == 3) || n != 0 && !ok {
			t.Errorf("P5.4: Term(%d): %d, %t", i, n, ok)
		}
		if es := l.From(i, 9); len(es) != 0 {
			t.Errorf("P5.4: From(%d, 9): %v", i, es)
		}
	}
	for most, want := range map[int]int{math.MinInt: 0, -1: 0, 0: 0, 1: 1, 2: 2, 3: 2, math.MaxInt: 2} {
		if es := l.From(5, most); !slices.EqualFunc(es, some(5, 4+want, 1), same) {
			t.Errorf("P5.4: From(5, %d): %v", most, es)
		}
	}
}
