package segment_test

import (
	"fmt"
	"slices"
	"testing"

	"echelon/api"
	"echelon/disk"
	"echelon/segment"
)

// someKeeps are what crashes may keep of a disk's files, one behind the other.
func someKeeps() [][]int {
	var out [][]int
	for _, a := range []int{0, 1, 16, 17, 18, 33, 34, 99} {
		for _, b := range []int{0, 3, 17, 20, 99} {
			for _, c := range []int{0, 17, 99} {
				out = append(out, []int{a, b, c, b, a, c})
			}
		}
	}
	return out
}

// beginning holds a log against entries of which it has at least so many of the first ones, and nothing else.
func beginning(t *testing.T, what string, l *segment.Log, m api.Mark, least int, es []api.Entry) {
	t.Helper()
	n := l.Last().Index - m.Index
	if n < least || n > len(es) {
		t.Fatalf("%s: it has %d entries, not %d to %d", what, n, least, len(es))
	}
	has(t, what, l, m, m.Index+n, es[:n]...)
}

// TestCrashUnsynced: what is synced is there behind any crash, and of what is behind it a beginning: whole rows, up to the first that is torn.
func TestCrashUnsynced(t *testing.T) {
	es := slices.Concat(some(1, 3, 1), some(4, 8, 2))
	for _, size := range []int{1, 18, 35, 999} {
		for synced := 0; synced <= 8; synced += 2 {
			for _, keep := range someKeeps() {
				d := space(t, 999)
				l := open(t, "P5.1", d, mark(0, 0), size)
				is(t, "P5.2", l.Append(es[:synced]...), api.OK)
				is(t, "P5.2", l.Sync(), api.OK)
				is(t, "P5.2", l.Append(es[synced:]...), api.OK)
				want := synced + wholeRows(d, keep)
				d.Crash(keep...)
				what := fmt.Sprintf("P5.5: size %d, %d synced, Crash(%d)", size, synced, keep)
				l = open(t, what, d, mark(0, 0), size)
				has(t, what, l, mark(0, 0), want, es[:want]...)
				more := some(want+1, 9, 3)
				is(t, what+": and on", l.Append(more...), api.OK)
				is(t, what+": and on", l.Sync(), api.OK)
				d.Crash()
				has(t, what+": and on", open(t, what, d, mark(0, 0), size), mark(0, 0), 9, append(slices.Clone(es[:want]), more...)...)
			}
		}
	}
}

// wholeRows is how many rows of 17 bytes that aren't safe a crash leaves without a gap.
func wholeRows(d *disk.Disk, keep []int) int {
	n := 0
	for i, name := range d.Names() {
		b, _ := d.Read(name)
		loose := len(b) - d.Safe(name)
		stays := min(keep[min(i, len(keep)-1)], loose)
		if i >= len(keep) {
			stays = 0
		}
		n += stays / 17
		if stays < loose {
			return n
		}
	}
	return n
}

// step is a call of a log, the mark by which it is opened then, and what it may have of which it must have the first ones.
type step struct {
	what string
	do   func(l *segment.Log) api.Errno
	m    api.Mark
	must int // of what it has at first, if it doesn't come to its end
	may  []api.Entry
	then []api.Entry // if it comes to its end: what it has
	safe int         // and how many of these outlive a crash
}

// TestStopAndCrash: each call, with each stop, and each crash behind it: the log that is opened anew has what is synced, a beginning of what is behind it, and nothing that was cut.
func TestStopAndCrash(t *testing.T) {
	// Six entries, four of which are synced.
	es := append(some(1, 4, 1), some(5, 6, 2)...)
	eight := append(slices.Clone(es), some(7, 8, 2)...)
	for _, c := range []step{
		{"Append", func(l *segment.Log) api.Errno { return l.Append(eight[6:]...) }, mark(0, 0), 4, eight, eight, 4},
		{"Sync", func(l *segment.Log) api.Errno { return l.Sync() }, mark(0, 0), 4, es, es, 6},
		{"CutFrom(6)", func(l *segment.Log) api.Errno { return l.CutFrom(6) }, mark(0, 0), 4, es, es[:5], 4},
		{"CutFrom(5)", func(l *segment.Log) api.Errno { return l.CutFrom(5) }, mark(0, 0), 4, es, es[:4], 4},
		{"CutFrom(4)", func(l *segment.Log) api.Errno { return l.CutFrom(4) }, mark(0, 0), 3, es, es[:3], 3},
		{"CutFrom(2)", func(l *segment.Log) api.Errno { return l.CutFrom(2) }, mark(0, 0), 1, es, es[:1], 1},
		{"CutFrom(1)", func(l *segment.Log) api.Errno { return l.CutFrom(1) }, mark(0, 0), 0, es, nil, 0},
		{"DropTo(1)", func(l *segment.Log) api.Errno { return l.DropTo(mark(1, 1)) }, mark(1, 1), 3, es[1:], es[1:], 3},
		{"DropTo(4)", func(l *segment.Log) api.Errno { return l.DropTo(mark(4, 1)) }, mark(4, 1), 0, es[4:], es[4:], 0},
		{"DropTo(5)", func(l *segment.Log) api.Errno { return l.DropTo(mark(5, 2)) }, mark(5, 2), 0, es[5:], es[5:], 0},
		{"DropTo(6)", func(l *segment.Log) api.Errno { return l.DropTo(mark(6, 2)) }, mark(6, 2), 0, nil, nil, 0},
		{"Reset(3, 9)", func(l *segment.Log) api.Errno { return l.Reset(mark(3, 9)) }, mark(3, 9), 0, nil, nil, 0},
		{"Reset(30, 9)", func(l *segment.Log) api.Errno { return l.Reset(mark(30, 9)) }, mark(30, 9), 0, nil, nil, 0},
		{"Reset(0, 0)", func(l *segment.Log) api.Errno { return l.Reset(mark(0, 0)) }, mark(0, 0), 0, es, nil, 0},
	} {
		for _, size := range []int{1, 18, 35, 999} {
			for n := range 9 {
				for _, keep := range someKeeps() {
					c.check(t, size, n, keep, es)
				}
			}
		}
	}
}

func (c step) check(t *testing.T, size, n int, keep []int, es []api.Entry) {
	t.Helper()
	l, d := begun(t, 999, mark(0, 0), size, es[:4]...)
	is(t, "P5.2", l.Append(es[4:]...), api.OK)
	d.Stop(n)
	e := c.do(l)
	what := fmt.Sprintf("P5.5: %s: size %d, Stop(%d), Crash(%d)", c.what, size, n, keep)
	if e != api.OK && e != api.ErrStop {
		t.Fatalf("%s: %d", what, e)
	}
	d.Crash(keep...)
	l = open(t, what, d, c.m, size)
	last := l.Last().Index
	if e == api.OK {
		beginning(t, what, l, c.m, c.safe, c.then)
	} else {
		beginning(t, what, l, c.m, c.must, c.may)
	}
	// Nor does another crash take anything, or bring it.
	d.Crash(keep...)
	l = open(t, what+": again", d, c.m, size)
	if l.Last().Index != last {
		t.Fatalf("%s: the last one is %d, not %d", what, l.Last().Index, last)
	}
	next := at(last+1, 9, 'x')
	is(t, what+": and on", l.Append(next), api.OK)
	is(t, what+": and on", l.Sync(), api.OK)
	if now := open(t, what, d, c.m, size).Last(); now != mark(last+1, 9) {
		t.Fatalf("%s: the last one is %v", what, now)
	}
}

// TestCutStaysAway: what was cut, and other entries laid in its place, not synced: behind a crash there is a beginning of these.
func TestCutStaysAway(t *testing.T) {
	elder, now := some(1, 7, 1), append(some(1, 2, 1), some(3, 8, 2)...)
	for _, size := range []int{1, 18, 35, 999} {
		for _, synced := range []bool{false, true} {
			for _, keep := range someKeeps() {
				d := space(t, 999)
				l := open(t, "P5.1", d, mark(0, 0), size)
				is(t, "P5.2", l.Append(elder...), api.OK)
				least := 0
				if synced {
					is(t, "P5.2", l.Sync(), api.OK)
					least = 2
				}
				is(t, "P5.3", l.CutFrom(3), api.OK)
				is(t, "P5.2", l.Append(now[2:]...), api.OK)
				d.Crash(keep...)
				what := fmt.Sprintf("P5.5: size %d, synced %t, Crash(%d)", size, synced, keep)
				beginning(t, what, open(t, what, d, mark(0, 0), size), mark(0, 0), least, now)
			}
		}
	}
}

// TestHollowComesAbout: of a segment that was begun and not synced a crash may leave no byte; it is gone on with, and fits as the first one behind its mark.
func TestHollowComesAbout(t *testing.T) {
	l, d := begun(t, 999, mark(0, 0), 30, some(1, 2, 1)...)
	is(t, "P5.2", l.Append(some(3, 5, 1)...), api.OK)
	d.Crash(0, 0, 17)
	l = open(t, "P5.5", d, mark(0, 0), 30)
	has(t, "P5.5", l, mark(0, 0), 2, some(1, 2, 1)...)
	files(t, "P5.1: behind a segment without bytes all is torn", d, seg(1), string(rows(some(1, 2, 1)...)), seg(3), "")
	is(t, "P5.3", l.DropTo(mark(2, 1)), api.OK)
	files(t, "P5.3", d, seg(3), "")
	l = open(t, "P5.5", d, mark(2, 1), 30)
	is(t, "P5.2", l.Append(some(3, 3, 2)...), api.OK)
	has(t, "P5.2", l, mark(2, 1), 2, some(3, 3, 2)...)
	d.Crash()
	has(t, "P5.5", open(t, "P5.5", d, mark(2, 1), 30), mark(2, 1), 2)
	has(t, "P5.1: another mark", open(t, "P5.1", d, mark(1, 1), 30), mark(1, 1), 1)
	named(t, "P5.1: another mark", d)
}

// TestOtherErrors: where a segment's file is gone, the disk's error is answered, and the log is as the call's text says.
func TestOtherErrors(t *testing.T) {
	gone := func(name string) (*segment.Log, *disk.Disk) {
		l, d := begun(t, 999, mark(0, 0), 30, some(1, 6, 1)...)
		is(t, "P3.3", d.Remove(name), api.OK)
		return l, d
	}
	l, d := gone(seg(3))
	is(t, "P5.3: CutFrom", l.CutFrom(2), api.ErrName)
	has(t, "P5.3: what is removed is gone", l, mark(0, 0), 4, some(1, 4, 1)...)
	named(t, "P5.3: what is removed is gone", d, seg(1))
	l, d = gone(seg(1))
	is(t, "P5.3: CutFrom", l.CutFrom(2), api.ErrName)
	has(t, "P5.3: what is removed is gone", l, mark(0, 0), 2, some(1, 2, 1)...)
	named(t, "P5.3: what is removed is gone", d)
	l, d = gone(seg(3))
	is(t, "P5.3: DropTo", l.DropTo(mark(5, 1)), api.ErrName)
	has(t, "P5.3: the log begins behind it all the same", l, mark(5, 1), 6, some(6, 6, 1)...)
	named(t, "P5.3: DropTo", d, seg(5))
	l, d = gone(seg(3))
	is(t, "P5.3: Reset", l.Reset(mark(5, 1)), api.ErrName)
	has(t, "P5.3: the log begins behind it, and has no entry", l, mark(5, 1), 5)
	named(t, "P5.3: Reset", d, seg(1))
	l, _ = gone(seg(5))
	is(t, "P5.2: Append", l.Append(some(7, 7, 1)...), api.OK)
	is(t, "P3.3: Remove", l.Sync(), api.OK)
	has(t, "P5.2: Sync", l, mark(0, 0), 7, some(1, 7, 1)...)
	l, d = begun(t, 999, mark(0, 0), 30, some(1, 6, 1)...)
	is(t, "P5.2", l.Append(some(7, 7, 1)...), api.OK)
	is(t, "P3.3", d.Remove(seg(7)), api.OK)
	is(t, "P5.2: Sync", l.Sync(), api.ErrName)
	has(t, "P5.2: Sync", l, mark(0, 0), 6, some(1, 7, 1)...)
}

// TestBehindStop: behind an ErrStop, or a crash, all calls end.
func TestBehindStop(t *testing.T) {
	for which := range 12 {
		for n := range 6 {
			l, d := begun(t, 999, mark(1, 1), 30, some(2, 7, 1)...)
			is(t, "P5.2", l.Append(some(8, 9, 1)...), api.OK)
			if which%2 == 0 {
				d.Stop(n)
			} else {
				d.Crash(n)
			}
			for i := range 30 {
				anyCall(l, which/2+i*n)
				if i%7 == 3 {
					d.Crash(5)
				}
			}
			l.Mark()
			l.Last()
			l.Synced()
		}
	}
}

// anyCall makes one of a log's calls.
func anyCall(l *segment.Log, which int) {
	last := l.Last()
	switch which % 6 {
	case 0:
		l.Append(some(last.Index+1, last.Index+3, max(last.Term, 1))...)
	case 1:
		l.Sync()
	case 2:
		l.CutFrom(last.Index - which%3)
	case 3:
		l.DropTo(mark(l.Mark().Index+1, last.Term))
	case 4:
		l.CutFrom(l.Mark().Index + 1)
	case 5:
		l.Reset(mark(which%5, 1))
	}
	for i := -1; i < 14; i++ {
		l.At(i)
		l.Term(i)
		l.From(i, which)
	}
}
