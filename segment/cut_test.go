package segment_test

import (
	"fmt"
	"math"
	"slices"
	"testing"

	"echelon/api"
	"echelon/segment"
)

// TestCutFrom: from each Index, of logs in segments of each size, the entries are gone, from the disk too, and it goes on.
func TestCutFrom(t *testing.T) {
	es := slices.Concat(some(4, 6, 2), some(7, 9, 3))
	for _, size := range []int{1, 18, 35, 999} {
		for index := 0; index <= 12; index++ {
			what := fmt.Sprintf("P5.3: size %d: CutFrom(%d)", size, index)
			l, d := begun(t, 999, mark(3, 2), size, es...)
			all := tell(d)
			if index <= 3 || index > 9 {
				d.Stop(0)
				want := api.OK
				if index <= 3 {
					want = api.ErrArg
				}
				is(t, what, l.CutFrom(index), want)
				has(t, what, l, mark(3, 2), 9, es...)
				if got := tell(d); got != all {
					t.Fatalf("%s: there is %s, not %s", what, got, all)
				}
				continue
			}
			is(t, what, l.CutFrom(index), api.OK)
			left := es[:index-4]
			has(t, what, l, mark(3, 2), index-1, left...)
			_, same := begun(t, 999, mark(3, 2), size, left...)
			if got := tell(d); got != tell(same) {
				t.Fatalf("%s: there is %s, not %s", what, got, tell(same))
			}
			is(t, what+": nothing is left", l.CutFrom(index), api.OK)
			is(t, what+": what was cut, with another Term", l.Append(some(index, 10, 5)...), api.OK)
			now := append(slices.Clone(left), some(index, 10, 5)...)
			has(t, what+": and on", l, mark(3, 2), index-1, now...)
			is(t, what+": Sync", l.Sync(), api.OK)
			has(t, what+": and on", l, mark(3, 2), 10, now...)
			has(t, what+": again", open(t, what, d, mark(3, 2), size), mark(3, 2), 10, now...)
		}
	}
}

func TestCutFromEnds(t *testing.T) {
	l, d := begun(t, 999, mark(3, 1), 30, some(4, 6, 1)...)
	all := tell(d)
	for index, want := range map[int]api.Errno{math.MinInt: api.ErrArg, -1: api.ErrArg, 3: api.ErrArg, 7: api.OK, math.MaxInt: api.OK, top: api.OK} {
		is(t, fmt.Sprintf("P5.3: CutFrom(%d)", index), l.CutFrom(index), want)
	}
	has(t, "P5.3", l, mark(3, 1), 6, some(4, 6, 1)...)
	if got := tell(d); got != all {
		t.Errorf("P5.3: there is %s, not %s", got, all)
	}
}

// TestCutUnsynced: Synced doesn't rise by a cut, and falls with what is cut.
func TestCutUnsynced(t *testing.T) {
	l, _ := begun(t, 999, mark(0, 0), 30, some(1, 3, 1)...)
	is(t, "P5.2", l.Append(some(4, 6, 1)...), api.OK)
	is(t, "P5.3", l.CutFrom(5), api.OK)
	has(t, "P5.3: behind what is synced", l, mark(0, 0), 3, some(1, 4, 1)...)
	is(t, "P5.3", l.CutFrom(4), api.OK)
	has(t, "P5.3: right behind it", l, mark(0, 0), 3, some(1, 3, 1)...)
	is(t, "P5.3", l.CutFrom(2), api.OK)
	has(t, "P5.3: within it", l, mark(0, 0), 1, some(1, 1, 1)...)
	is(t, "P5.2", l.Append(some(2, 4, 2)...), api.OK)
	has(t, "P5.3: others in their place", l, mark(0, 0), 1, append(some(1, 1, 1), some(2, 4, 2)...)...)
	is(t, "P5.3", l.CutFrom(1), api.OK)
	has(t, "P5.3: all of it", l, mark(0, 0), 0)
}

// TestCutHollow: a segment without bytes is removed, if it begins at the Index or behind and there are entries from there on; and it is gone on with, if it stays.
func TestCutHollow(t *testing.T) {
	for index := 1; index <= 5; index++ {
		d := space(t, 999)
		lay(t, d, seg(1), rows(some(1, 3, 1)...))
		lay(t, d, seg(4), nil)
		l := open(t, "P5.1", d, mark(0, 0), 999)
		is(t, "P5.3", l.CutFrom(index), api.OK)
		what := fmt.Sprintf("P5.3: CutFrom(%d)", index)
		switch {
		case index == 1:
			files(t, what, d)
		case index < 4:
			files(t, what, d, seg(1), string(rows(some(1, index-1, 1)...)))
		default:
			files(t, what, d, seg(1), string(rows(some(1, 3, 1)...)), seg(4), "")
		}
		last := l.Last().Index
		has(t, what, l, mark(0, 0), last, some(1, last, 1)...)
		is(t, what, l.Append(some(last+1, 5, 1)...), api.OK)
		is(t, what, l.Sync(), api.OK)
		has(t, what, open(t, what, d, mark(0, 0), 1), mark(0, 0), 5, some(1, 5, 1)...)
		if _, there := d.Read(seg(4)); there != (index >= 4) {
			t.Errorf("%s: seg-4 is there: %t", what, there)
		}
	}
}

// TestCutWithinMark: where the mark lies in a segment, that one is cut behind it, and stays.
func TestCutWithinMark(t *testing.T) {
	_, d := begun(t, 999, mark(0, 0), 999, some(1, 6, 1)...)
	l := open(t, "P5.1", d, mark(3, 1), 999)
	has(t, "P5.1: a mark within", l, mark(3, 1), 6, some(4, 6, 1)...)
	is(t, "P5.3", l.CutFrom(5), api.OK)
	files(t, "P5.3", d, seg(1), string(rows(some(1, 4, 1)...)))
	is(t, "P5.3", l.CutFrom(4), api.OK)
	files(t, "P5.3", d, seg(1), string(rows(some(1, 3, 1)...)))
	has(t, "P5.3", l, mark(3, 1), 3)
	is(t, "P5.2: and on", l.Append(some(4, 5, 2)...), api.OK)
	is(t, "P5.2: and on", l.Sync(), api.OK)
	files(t, "P5.2: and on", d, seg(1), string(rows(append(some(1, 3, 1), some(4, 5, 2)...)...)))
	is(t, "P5.3: what isn't the log's any more", l.CutFrom(3), api.ErrArg)
}

// TestDropTo: to each Mark, of logs in segments of each size.
func TestDropTo(t *testing.T) {
	es := slices.Concat(some(4, 6, 2), some(7, 9, 3))
	for _, size := range []int{1, 18, 35, 999} {
		for index := 1; index <= 11; index++ {
			for term := 0; term <= 4; term++ {
				dropTo(t, size, mark(index, term), es)
			}
		}
	}
}

func dropTo(t *testing.T, size int, m api.Mark, es []api.Entry) {
	t.Helper()
	what := fmt.Sprintf("P5.3: size %d: DropTo(%v)", size, m)
	l, d := begun(t, 999, mark(3, 2), size, es...)
	all := tell(d)
	term := 2
	if m.Index > 6 {
		term = 3
	}
	if m.Index < 3 || m.Index > 9 || m.Term != term {
		is(t, what, l.DropTo(m), api.ErrArg)
		has(t, what, l, mark(3, 2), 9, es...)
		if got := tell(d); got != all {
			t.Fatalf("%s: there is %s, not %s", what, got, all)
		}
		return
	}
	is(t, what, l.DropTo(m), api.OK)
	has(t, what, l, m, 9, es[m.Index-3:]...)
	// Segments stay from the one on that has an entry behind the mark.
	var want []string
	for first := 4; first <= 9; {
		last := min(first+(size-1)/17, 9)
		if last > m.Index {
			want = append(want, seg(first), string(rows(es[first-4:last-3]...)))
		}
		first = last + 1
	}
	files(t, what, d, want...)
	is(t, what+": once more", l.DropTo(m), api.OK)
	is(t, what+": and back", l.DropTo(mark(3, 2)), map[bool]api.Errno{true: api.OK, false: api.ErrArg}[m.Index == 3])
	is(t, what+": and on", l.Append(some(10, 11, 3)...), api.OK)
	is(t, what+": and on", l.Sync(), api.OK)
	now := append(slices.Clone(es[m.Index-3:]), some(10, 11, 3)...)
	has(t, what+": and on", l, m, 11, now...)
	has(t, what+": again", open(t, what, d, m, size), m, 11, now...)
}

func TestDropToEnds(t *testing.T) {
	l, _ := begun(t, 999, mark(3, 1), 30, some(4, 6, 1)...)
	for _, m := range []api.Mark{mark(math.MinInt, 1), mark(-1, 1), mark(0, 0), mark(0, 1), mark(3, 0), mark(3, -1), mark(7, 1), mark(top, 1), mark(math.MaxInt, 1), mark(5, math.MaxInt), mark(5, math.MinInt)} {
		is(t, fmt.Sprintf("P5.3: DropTo(%v)", m), l.DropTo(m), api.ErrArg)
	}
	has(t, "P5.3", l, mark(3, 1), 6, some(4, 6, 1)...)
}

// TestDropUnsynced: Synced is the mark's Index, if no entry is synced; and what was appended to and is gone isn't synced.
func TestDropUnsynced(t *testing.T) {
	l, d := begun(t, 999, mark(0, 0), 30, some(1, 1, 1)...)
	is(t, "P5.2", l.Append(some(2, 6, 1)...), api.OK)
	is(t, "P5.3", l.DropTo(mark(3, 1)), api.OK)
	has(t, "P5.4: behind what is synced", l, mark(3, 1), 3, some(4, 6, 1)...)
	named(t, "P5.3", d, seg(3), seg(5))
	is(t, "P5.3", l.DropTo(mark(6, 1)), api.OK)
	has(t, "P5.4: all of it", l, mark(6, 1), 6)
	named(t, "P5.3", d)
	d.Stop(0)
	is(t, "P5.2: nothing to sync", l.Sync(), api.OK)
}

// TestDropHollow: a segment without bytes has no entries, and stays.
func TestDropHollow(t *testing.T) {
	d := space(t, 999)
	lay(t, d, seg(1), rows(some(1, 3, 1)...))
	lay(t, d, seg(4), nil)
	l := open(t, "P5.1", d, mark(2, 1), 30)
	is(t, "P5.3", l.DropTo(mark(2, 1)), api.OK)
	named(t, "P5.3: an entry is behind it", d, seg(1), seg(4))
	is(t, "P5.3", l.DropTo(mark(3, 1)), api.OK)
	files(t, "P5.3: all entries are ahead of it", d, seg(4), "")
	is(t, "P5.3", l.DropTo(mark(3, 1)), api.OK)
	l = open(t, "P5.1", d, mark(3, 1), 30)
	has(t, "P5.1", l, mark(3, 1), 3)
	is(t, "P5.2", l.Append(some(4, 4, 1)...), api.OK)
	is(t, "P5.2", l.Sync(), api.OK)
	files(t, "P5.2: it is gone on with", d, seg(4), string(rows(some(4, 4, 1)...)))
}

// TestDropElder: a DropTo the mark itself removes segments that an Open left ahead of it.
func TestDropElder(t *testing.T) {
	_, d := begun(t, 999, mark(0, 0), 30, some(1, 6, 1)...)
	l := open(t, "P5.1", d, mark(4, 1), 30)
	named(t, "P5.1: nothing is torn", d, seg(1), seg(3), seg(5))
	is(t, "P5.3", l.DropTo(mark(4, 1)), api.OK)
	named(t, "P5.3", d, seg(5))
	has(t, "P5.3", l, mark(4, 1), 6, some(5, 6, 1)...)
}

// TestReset: to each mark that may be, whatever the log had.
func TestReset(t *testing.T) {
	for _, m := range []api.Mark{mark(0, 0), mark(0, 7), mark(2, 0), mark(3, 1), mark(4, 1), mark(6, 1), mark(6, 2), mark(9, 1), mark(top-1, top-1), mark(top-1, 0), mark(0, top-1)} {
		l, d := begun(t, 999, mark(3, 1), 18, some(4, 6, 1)...)
		is(t, "P5.2: unsynced ones", l.Append(some(7, 9, 1)...), api.OK)
		lay(t, d, "hard-0", []byte("x"))
		what := fmt.Sprintf("P5.3: Reset(%v)", m)
		is(t, what, l.Reset(m), api.OK)
		has(t, what, l, m, m.Index)
		files(t, what, d, "hard-0", "x")
		d.Stop(0)
		is(t, what+": nothing to sync", l.Sync(), api.OK)
		is(t, what+": nothing to remove", l.Reset(m), api.OK)
		d.Stop(-1)
		if m.Index == top-1 {
			continue
		}
		next := at(m.Index+1, max(m.Term, 1), 'x')
		is(t, what+": and on", l.Append(next), api.OK)
		has(t, what+": and on", l, m, m.Index, next)
		is(t, what+": and on", l.Sync(), api.OK)
		files(t, what+": and on", d, "hard-0", "x", seg(m.Index+1), string(rows(next)))
		has(t, what+": again", open(t, what, d, m, 18), m, m.Index+1, next)
	}
}

func TestResetWrong(t *testing.T) {
	l, d := begun(t, 999, mark(3, 1), 18, some(4, 6, 1)...)
	all := tell(d)
	for _, m := range []api.Mark{mark(-1, 0), mark(0, -1), mark(top, 1), mark(1, top), mark(math.MinInt, 1), mark(1, math.MinInt), mark(math.MaxInt, 1), mark(1, math.MaxInt)} {
		is(t, fmt.Sprintf("P5.3: Reset(%v)", m), l.Reset(m), api.ErrArg)
	}
	has(t, "P5.3: a wrong mark", l, mark(3, 1), 6, some(4, 6, 1)...)
	if got := tell(d); got != all {
		t.Errorf("P5.3: there is %s, not %s", got, all)
	}
}

// TestResetHollow: segments without bytes, and those ahead of the mark, are removed, too.
func TestResetHollow(t *testing.T) {
	d := space(t, 999)
	lay(t, d, seg(1), rows(some(1, 3, 1)...))
	lay(t, d, seg(4), nil)
	l := open(t, "P5.1", d, mark(3, 1), 30)
	is(t, "P5.3", l.Reset(mark(3, 1)), api.OK)
	named(t, "P5.3", d)
	has(t, "P5.3", l, mark(3, 1), 3)
}

// TestCalls: the calls of the disk that each call makes, one by one, by what each stop leaves there.
func TestCalls(t *testing.T) {
	es := some(1, 7, 1)
	b := func(from, to int) string { return string(rows(es[from-1 : to]...)) }
	all := []string{seg(1), b(1, 2), seg(3), b(3, 4), seg(5), b(5, 6)}
	for _, c := range []struct {
		what string
		do   func(l *segment.Log) api.Errno
		want [][]string // what is there behind 0, 1, .. calls, and as many bytes as there are
	}{
		{"Append", func(l *segment.Log) api.Errno { return l.Append(append(some(7, 9, 1), at(10, 2, 'x'))...) }, [][]string{
			all,
			append(slices.Clone(all), seg(7), string(rows(some(7, 7, 1)...))),
			append(slices.Clone(all), seg(7), string(rows(some(7, 8, 1)...))),
			append(slices.Clone(all), seg(7), string(rows(some(7, 8, 1)...)), seg(9), string(rows(some(9, 9, 1)...))),
			append(slices.Clone(all), seg(7), string(rows(some(7, 8, 1)...)), seg(9), string(rows(some(9, 9, 1)...))+string(rows(at(10, 2, 'x')))),
		}},
		{"CutFrom a segment's first", func(l *segment.Log) api.Errno { return l.CutFrom(3) }, [][]string{all, all[:4], all[:2]}},
		{"CutFrom a segment's second", func(l *segment.Log) api.Errno { return l.CutFrom(2) }, [][]string{all, all[:4], all[:2], {seg(1), b(1, 1)}}},
		{"CutFrom the last", func(l *segment.Log) api.Errno { return l.CutFrom(6) }, [][]string{all, append(slices.Clone(all[:4]), seg(5), b(5, 5))}},
		{"CutFrom the first", func(l *segment.Log) api.Errno { return l.CutFrom(1) }, [][]string{all, all[:4], all[:2], {}}},
		{"DropTo a segment's first", func(l *segment.Log) api.Errno { return l.DropTo(mark(5, 1)) }, [][]string{all, all[2:], all[4:]}},
		{"DropTo a segment's last", func(l *segment.Log) api.Errno { return l.DropTo(mark(4, 1)) }, [][]string{all, all[2:], all[4:]}},
		{"DropTo the last", func(l *segment.Log) api.Errno { return l.DropTo(mark(6, 1)) }, [][]string{all, all[2:], all[4:], {}}},
		{"DropTo the mark", func(l *segment.Log) api.Errno { return l.DropTo(mark(0, 0)) }, [][]string{all}},
		{"Reset", func(l *segment.Log) api.Errno { return l.Reset(mark(2, 1)) }, [][]string{all, all[:4], all[:2], {}}},
	} {
		for n, want := range c.want {
			l, d := begun(t, 999, mark(0, 0), 30, es[:6]...)
			d.Stop(n)
			what := fmt.Sprintf("P5.2, P5.3: %s: Stop(%d)", c.what, n)
			e := api.ErrStop
			if n == len(c.want)-1 {
				e = api.OK
			}
			is(t, what, c.do(l), e)
			d.Crash(99, 99, 99, 99, 99)
			files(t, what, d, want...)
		}
	}
}
