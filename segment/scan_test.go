package segment_test

import (
	"fmt"
	"math"
	"slices"
	"testing"

	"echelon/api"
	"echelon/disk"
	"echelon/segment"
)

func TestOpenWrong(t *testing.T) {
	d := space(t, 99)
	lay(t, d, seg(1), rows(some(1, 2, 1)...))
	all := tell(d)
	for _, c := range []struct {
		d    *disk.Disk
		m    api.Mark
		size int
		want api.Errno
	}{
		{nil, mark(0, 0), 1, api.ErrNil},
		{nil, mark(-1, 0), 0, api.ErrNil},
		{d, mark(0, 0), 0, api.ErrArg},
		{d, mark(0, 0), -1, api.ErrArg},
		{d, mark(0, 0), math.MinInt, api.ErrArg},
		{d, mark(-1, 0), 1, api.ErrArg},
		{d, mark(0, -1), 1, api.ErrArg},
		{d, mark(math.MinInt, math.MinInt), 1, api.ErrArg},
		{d, mark(top, 0), 1, api.ErrArg},
		{d, mark(0, top), 1, api.ErrArg},
		{d, mark(math.MaxInt, 0), 1, api.ErrArg},
		{d, mark(0, math.MaxInt), 1, api.ErrArg},
	} {
		if l, e := segment.Open(c.d, c.m, c.size); l != nil || e != c.want {
			t.Errorf("P5.1: Open(%v, %d): %v, %d, not %d", c.m, c.size, l, e, c.want)
		}
	}
	if got := tell(d); got != all {
		t.Errorf("rule 3: Open changed the disk: %s, not %s", got, all)
	}
}

func TestOpenEmpty(t *testing.T) {
	for _, m := range []api.Mark{mark(0, 0), mark(0, 5), mark(7, 0), mark(7, 3), mark(top-1, top-1), mark(0, top-1), mark(top-1, 0)} {
		for _, size := range []int{1, 50, math.MaxInt} {
			d := space(t, 9)
			d.Stop(0) // there is nothing to take away, nor to sync
			has(t, "P5.1: an empty disk", open(t, "P5.1: an empty disk", d, m, size), m, m.Index)
			named(t, "P5.1: an empty disk", d)
		}
	}
}

// scanned is a disk's files, as they are laid and as they are left, and the log then.
type scanned struct {
	what string
	laid []string // names and bytes, one behind the other
	m    api.Mark
	left []string
	es   []api.Entry
}

// check opens the log of a disk with these files, and others beside them.
func (c scanned) check(t *testing.T) {
	t.Helper()
	d := space(t, 1<<20)
	others := []string{"hard-0", "x", "snap-0000000003", "x", "zz", "x"}
	all := append(slices.Clone(others), c.laid...)
	for i := 0; i < len(all); i += 2 {
		lay(t, d, all[i], []byte(all[i+1]))
	}
	what := fmt.Sprintf("P5.1: %s, mark %v", c.what, c.m)
	l := open(t, what, d, c.m, 30)
	has(t, what, l, c.m, max(c.m.Index, l.Last().Index), c.es...)
	files(t, what, d, slices.Concat(others[:2], c.left, others[2:])...)
	// What is left is a log, once more.
	l = open(t, what+": again", d, c.m, 30)
	has(t, what+": again", l, c.m, max(c.m.Index, l.Last().Index), c.es...)
	files(t, what+": again", d, slices.Concat(others[:2], c.left, others[2:])...)
	next := at(l.Last().Index+1, max(l.Last().Term, 1), 'x')
	is(t, what+": Append", l.Append(next), api.OK)
	is(t, what+": Sync", l.Sync(), api.OK)
	l = open(t, what+": and on", d, c.m, 30)
	has(t, what+": and on", l, c.m, next.Index, append(slices.Clone(c.es), next)...)
}

// TestFits: by which marks a scan fits, and what is left then.
func TestFits(t *testing.T) {
	es := slices.Concat(some(4, 5, 2), some(6, 7, 3))
	two := []string{seg(4), string(rows(es[:3]...)), seg(7), string(rows(es[3]))}
	for _, c := range []scanned{
		{"the first one is right behind the mark", two, mark(3, 0), two, es},
		{"the first one is right behind the mark", two, mark(3, 1), two, es},
		{"the first one is right behind the mark, with its Term", two, mark(3, 2), two, es},
		{"the first one's Term is below the mark's", two, mark(3, 3), nil, nil},
		{"the first one is further behind", two, mark(2, 1), nil, nil},
		{"the first one is further behind", two, mark(0, 0), nil, nil},
		{"the mark is the first one", two, mark(4, 2), two, es[1:]},
		{"the mark is the first one, with another Term", two, mark(4, 1), nil, nil},
		{"the mark is the first one, with another Term", two, mark(4, 3), nil, nil},
		{"the mark is in the middle", two, mark(5, 2), two, es[2:]},
		{"the mark is in the middle, with another Term", two, mark(5, 3), nil, nil},
		{"the mark is a segment's last", two, mark(6, 3), two, es[3:]},
		{"the mark is a segment's last, with another Term", two, mark(6, 2), nil, nil},
		{"the mark is the last", two, mark(7, 3), two, nil},
		{"the mark is the last, with another Term", two, mark(7, 4), nil, nil},
		{"the mark is behind the last", two, mark(8, 3), nil, nil},
		{"the mark is far behind the last", two, mark(top-2, 3), nil, nil},
		{"the mark is at 0, with the entry's Term", []string{seg(1), string(rows(some(1, 2, 3)...))}, mark(0, 3), []string{seg(1), string(rows(some(1, 2, 3)...))}, some(1, 2, 3)},
		{"the mark is at 0, with a greater Term", []string{seg(1), string(rows(some(1, 2, 3)...))}, mark(0, 4), nil, nil},
		{"other files alone", nil, mark(5, 2), nil, nil},
	} {
		c.check(t)
	}
}

// TestHollow: segments without bytes.
func TestHollow(t *testing.T) {
	es := some(4, 6, 2)
	full := string(rows(es...))
	for _, c := range []scanned{
		{"one without bytes, right behind the mark", []string{seg(4), ""}, mark(3, 2), []string{seg(4), ""}, nil},
		{"one without bytes, right behind the mark at 0", []string{seg(1), ""}, mark(0, 0), []string{seg(1), ""}, nil},
		{"one without bytes, at the mark", []string{seg(3), ""}, mark(3, 2), nil, nil},
		{"one without bytes, further behind", []string{seg(5), ""}, mark(3, 2), nil, nil},
		{"one without bytes, named 0", []string{seg(0), ""}, mark(0, 0), nil, nil},
		{"it is the first one, and others are behind it", []string{seg(4), "", seg(5), "", seg(6), full}, mark(3, 2), []string{seg(4), ""}, nil},
		{"it is the first one, and behind it is what could be the log", []string{seg(3), "", seg(4), full}, mark(3, 2), nil, nil},
		{"it isn't the first one", []string{seg(2), "", seg(4), ""}, mark(3, 2), nil, nil},
		{"behind what is torn from the first byte on", []string{seg(1), "torn", seg(4), ""}, mark(3, 2), nil, nil},
		{"behind entries, the next one", []string{seg(4), full, seg(7), ""}, mark(3, 2), []string{seg(4), full, seg(7), ""}, es},
		{"behind entries, the next one, the mark is the last", []string{seg(4), full, seg(7), ""}, mark(6, 2), []string{seg(4), full, seg(7), ""}, nil},
		{"behind entries, not the next one", []string{seg(4), full, seg(8), ""}, mark(3, 2), []string{seg(4), full}, es},
		{"behind entries, within them", []string{seg(4), full, seg(6), ""}, mark(3, 2), []string{seg(4), full}, es},
		{"behind entries, and others behind it", []string{seg(4), full, seg(7), "", seg(8), "", seg(9), string(rows(some(9, 9, 2)...))}, mark(5, 2), []string{seg(4), full, seg(7), ""}, es[2:]},
		{"behind entries that don't fit", []string{seg(4), full, seg(7), ""}, mark(6, 3), nil, nil},
		{"right behind a mark that the entries ahead don't fit", []string{seg(1), string(rows(some(1, 1, 1)...)), seg(4), ""}, mark(3, 2), nil, nil},
		{"behind what is torn, the one behind what is left", []string{seg(4), full + "torn", seg(7), ""}, mark(3, 2), []string{seg(4), full, seg(7), ""}, es},
		{"behind what is torn, and a wrong one between", []string{seg(4), full, seg(5), "x", seg(6), "", seg(7), ""}, mark(3, 2), []string{seg(4), full, seg(7), ""}, es},
		{"behind what is torn, the one that was behind it", []string{seg(4), full[:40], seg(7), ""}, mark(3, 2), []string{seg(4), full[:34]}, es[:2]},
	} {
		c.check(t)
	}
}

// TestNames: which files are segments, and which of these come next.
func TestNames(t *testing.T) {
	es := some(1, 4, 1)
	one, two, three := string(rows(es[:2]...)), string(rows(es[2])), string(rows(es[3]))
	late := []api.Entry{at(top-2, 1), at(top-1, 1)}
	for _, c := range []scanned{
		{"a Term of 0", []string{seg(1), string(rows(at(1, 0)))}, mark(0, 0), nil, nil},
		{"an Index of 0", []string{seg(0), string(rows(at(0, 1)))}, mark(0, 1), nil, nil},
		{"each is the next one", []string{seg(1), one, seg(3), two, seg(4), three}, mark(0, 0), []string{seg(1), one, seg(3), two, seg(4), three}, es},
		{"a gap", []string{seg(1), one, seg(4), three}, mark(0, 0), []string{seg(1), one}, es[:2]},
		{"a gap, and what could follow behind it", []string{seg(1), one, seg(4), three, seg(5), string(rows(some(5, 5, 1)...))}, mark(0, 0), []string{seg(1), one}, es[:2]},
		{"one comes twice", []string{seg(1), one, seg(2), string(rows(es[1])), seg(3), two}, mark(0, 0), []string{seg(1), one}, es[:2]},
		{"the name isn't its first entry's", []string{seg(1), one, seg(3), three}, mark(0, 0), []string{seg(1), one}, es[:2]},
		{"nor is it of the first segment", []string{seg(2), one}, mark(0, 0), nil, nil},
		{"nor is it of the first segment", []string{seg(0), one}, mark(0, 0), nil, nil},
		{"a Term falls from one to the next", []string{seg(1), string(rows(some(1, 2, 2)...)), seg(3), two}, mark(0, 0), []string{seg(1), string(rows(some(1, 2, 2)...))}, some(1, 2, 2)},
	} {
		c.check(t)
	}
	d := space(t, 99)
	lay(t, d, seg(top-2), rows(late...))
	l := open(t, "P5.1: the last name", d, mark(top-3, 1), 1)
	has(t, "P5.1: the last name", l, mark(top-3, 1), top-1, late...)
	is(t, "P5.2: no Index is left", l.Append(at(top, 1)), api.ErrArg)
	is(t, "P5.3", l.CutFrom(top-1), api.OK)
	is(t, "P5.2: the last Index", l.Append(late[1]), api.OK)
	named(t, "P5.2: the last Index", d, "seg-9999999998", "seg-9999999999")
	has(t, "P5.1: the last Index", open(t, "P5.1", d, mark(top-1, 1), 1), mark(top-1, 1), top-1)
}

// TestOtherNames: files whose names are like segments' are none: they stay as they are, and hold nothing up.
func TestOtherNames(t *testing.T) {
	d := space(t, 999)
	es := some(1, 3, 1)
	lay(t, d, seg(1), rows(es[:2]...))
	for _, name := range []string{"seg-", "seg-000000003", "seg-00000000030", "seg-0000000003.", "seg-000000000a", "seg--000000003", "seg.0000000003", "0seg-0000000003", "segs-0000000003", "0000000003"} {
		lay(t, d, name, rows(es[2]))
	}
	all := tell(d)
	has(t, "P5.1: other names", open(t, "P5.1", d, mark(0, 0), 30), mark(0, 0), 2, es[:2]...)
	if got := tell(d); got != all {
		t.Errorf("P5.1: other names: there is %s, not %s", got, all)
	}
}

// TestRightRows: entries at the bounds of what they may be are scanned: as the first ones of a log, behind two other rows, and in a segment of their own.
func TestRightRows(t *testing.T) {
	ahead := some(1, 2, 2)
	two := string(rows(ahead...))
	for i, e := range []api.Entry{
		at(3, 2, 'a', 'b'),
		at(3, 2),
		at(3, 3),
		at(3, top-1, 'x'),
		{Index: 3, Term: 2, Kind: 0},
		{Index: 3, Term: 2, Kind: 255},
		at(3, 2, make([]byte, 70000)...),
	} {
		what := fmt.Sprintf("right row %d", i)
		all := append(slices.Clone(ahead), e, at(4, top-1, 'z'))
		b := string(rows(all[2:]...))
		scanned{what + ", the first one", []string{seg(3), b}, mark(2, 2), []string{seg(3), b}, all[2:]}.check(t)
		scanned{what, []string{seg(1), two + b}, mark(0, 0), []string{seg(1), two + b}, all}.check(t)
		scanned{what + ", in a segment", []string{seg(1), two, seg(3), b}, mark(1, 2), []string{seg(1), two, seg(3), b}, all[1:]}.check(t)
	}
	scanned{"the first Term", []string{seg(1), string(rows(at(1, 1)))}, mark(0, 0), []string{seg(1), string(rows(at(1, 1)))}, []api.Entry{at(1, 1)}}.check(t)
}

// TestWrongRows: bytes that aren't the row of an entry 3 with a Term from 2 on are torn in its place, and what is behind them; a log that would begin with them has nothing.
func TestWrongRows(t *testing.T) {
	const most = math.MaxUint64
	whole := rows(at(3, 2, 'a', 'b'))
	form := whole[8:]
	ahead := some(1, 2, 2)
	two, behind := string(rows(ahead...)), string(rows(at(3, 2)))
	left := []string{seg(1), two}
	for i, row := range [][]byte{
		rows(at(3, 1)), // its Term falls
		rows(at(3, 0)),
		rows(at(3, top)),
		rows(at(3, math.MaxInt)),
		rowed(formed("", 3, most, 1)),
		rows(at(2, 2)), // it isn't the next one
		rows(at(4, 2)),
		rows(at(0, 2)),
		rowed(formed("", 1<<32+3, 2, 1)),
		rowed(formed("", most, 2, 1)),
		rows(api.Entry{Index: 3, Term: 2, Kind: 256}),
		rowed(formed("", 3, 2, 1<<32+1)),
		rowed(formed("", 3, 2, most)),
		rowed(formed("", 3, 2)),       // a number too few
		rowed(formed("", 3, 2, 1, 0)), // and too many
		rowed(nil),
		rowed(append(slices.Clone(form), 0)), // a byte behind the form, under its sum and length
		rowed(form[:len(form)-1]),
		rowed([]byte{1, 3, 1, 2, 2, 0, 1, 0}), // a number with a 0 ahead
		rowed([]byte{1, 3, 1, 2, 1, 1, 9}),
		sealed(word(len(form)-1), form), // a length that is wrong, under the sum
		sealed(word(len(form)+1), form),
		sealed(word(0), form),
		sealed(word(-1), form),
		sealed([]byte{byte(len(form)), 0, 0, 0}, form), // the length's least byte first
		slices.Concat([]byte{whole[3], whole[2], whole[1], whole[0]}, whole[4:]), // the sum's
		slices.Concat(sealed(form)[:4], word(len(form)), form),                   // a sum of the form alone
		slices.Concat(word(len(form)), sealed(form)),                             // the length ahead of the sum
		form,
		whole[4:],
		whole[1:],
		append([]byte{0}, whole...),
		[]byte("0123456"),
		[]byte("01234567"),
		make([]byte, 7),
		make([]byte, 8),
		make([]byte, 99),
	} {
		what := fmt.Sprintf("wrong row %d", i)
		scanned{what + ", the first one", []string{seg(3), string(row)}, mark(2, 2), nil, nil}.check(t)
		scanned{what, []string{seg(1), two + string(row)}, mark(0, 0), left, ahead}.check(t)
		scanned{what + ", and one behind it", []string{seg(1), two + string(row) + behind}, mark(1, 2), left, ahead[1:]}.check(t)
		scanned{what + ", in a segment", []string{seg(1), two, seg(3), string(row), seg(4), string(rows(at(4, 3)))}, mark(0, 0), left, ahead}.check(t)
	}
}

// TestRowTurned: a row of which a bit is turned, or bytes are missing, is torn, and what is behind it, in further segments too.
func TestRowTurned(t *testing.T) {
	es := []api.Entry{at(1, 1, 'a')}
	ahead, row, behind := string(rows(es...)), rows(at(2, 1, 'b', 'c')), string(rows(at(3, 1, 'd')))
	left := []string{seg(1), ahead}
	for i := range len(row) * 8 {
		turned := slices.Clone(row)
		turned[i/8] ^= 1 << (i % 8)
		scanned{fmt.Sprintf("bit %d is turned", i), []string{seg(1), ahead + string(turned), seg(3), behind}, mark(0, 0), left, es}.check(t)
		scanned{fmt.Sprintf("bit %d is turned", i), []string{seg(1), ahead + string(turned) + behind}, mark(0, 0), left, es}.check(t)
	}
	for i := range row {
		scanned{fmt.Sprintf("%d bytes are there", i), []string{seg(1), ahead + string(row[:i]), seg(3), behind}, mark(0, 0), left, es}.check(t)
		scanned{fmt.Sprintf("%d bytes are gone", i+1), []string{seg(1), ahead + string(row[i+1:])}, mark(0, 0), left, es}.check(t)
	}
}

// TestScanGreatBody: the limit of a Body holds for Append; a row with a greater one is a row.
func TestScanGreatBody(t *testing.T) {
	d := space(t, 1<<22)
	e := at(1, 1, make([]byte, api.MaxBody+1)...)
	lay(t, d, seg(1), rows(e))
	has(t, "P5.1: a great Body", open(t, "P5.1", d, mark(0, 0), 1), mark(0, 0), 1, e)
}

// TestOpenCalls: the calls of the disk that Open makes, one by one: what each stop leaves, and its error.
func TestOpenCalls(t *testing.T) {
	es := some(1, 2, 1)
	one := string(rows(es...))
	for _, c := range []struct {
		what string
		laid []string
		m    api.Mark
		want [][]string // what is there behind 0, 1, .. calls
	}{
		{"nothing torn", []string{seg(1), one}, mark(0, 0), [][]string{{seg(1), one}, {seg(1), one}}},
		{"two segments, synced in one call", []string{seg(1), one, seg(3), ""}, mark(0, 0), [][]string{{seg(1), one, seg(3), ""}, {seg(1), one, seg(3), ""}}},
		{"all of it", []string{seg(1), one + "x", seg(3), "y", seg(4), ""}, mark(0, 0), [][]string{
			{seg(1), one + "x", seg(3), "y", seg(4), ""},
			{seg(1), one + "x", seg(3), "y"},
			{seg(1), one + "x"},
			{seg(1), one},
			{seg(1), one},
		}},
		{"one stays within", []string{seg(1), one, seg(2), "y", seg(3), "", seg(4), ""}, mark(0, 0), [][]string{
			{seg(1), one, seg(2), "y", seg(3), "", seg(4), ""},
			{seg(1), one, seg(2), "y", seg(3), ""},
			{seg(1), one, seg(3), ""},
			{seg(1), one, seg(3), ""},
		}},
		{"it doesn't fit", []string{seg(1), one + "x", seg(3), "", seg(4), one}, mark(3, 1), [][]string{
			{seg(1), one + "x", seg(3), "", seg(4), one},
			{seg(1), one + "x", seg(3), ""},
			{seg(1), one + "x"},
			{},
		}},
	} {
		for n, want := range c.want {
			d := space(t, 999)
			for i := 0; i < len(c.laid); i += 2 {
				lay(t, d, c.laid[i], []byte(c.laid[i+1]))
			}
			d.Stop(n)
			l, e := segment.Open(d, c.m, 30)
			what := fmt.Sprintf("P5.1: %s: Stop(%d)", c.what, n)
			if n < len(c.want)-1 && (l != nil || e != api.ErrStop) || n == len(c.want)-1 && (l == nil || e != api.OK) {
				t.Fatalf("%s: %v, %d", what, l, e)
			}
			files(t, what, d, want...)
			if n == len(c.want)-1 && d.Append("x") != api.ErrStop {
				t.Errorf("%s: fewer calls than %d", what, n)
			}
			d.Crash()
			l = open(t, what+", and a crash", d, c.m, 30)
			files(t, what+", and a crash", d, c.want[len(c.want)-1]...)
			has(t, what+", and a crash", l, c.m, max(c.m.Index, l.Last().Index), es[:max(l.Last().Index-c.m.Index, 0)]...)
		}
	}
}

// TestOpenSyncs: what outlived no crash is made safe.
func TestOpenSyncs(t *testing.T) {
	d := space(t, 999)
	b := rows(some(1, 3, 1)...)
	is(t, "P3.2", d.Append(seg(1), b[:34]), api.OK)
	is(t, "P3.2", d.Append(seg(3), b[34:], []byte("torn")), api.OK)
	l := open(t, "P5.1", d, mark(0, 0), 30)
	has(t, "P5.1: synced", l, mark(0, 0), 3, some(1, 3, 1)...)
	files(t, "P5.1: synced", d, seg(1), string(b[:34]), seg(3), string(b[34:]))
	d.Stop(0)
	is(t, "P5.2: nothing is to be synced", l.Sync(), api.OK)
}
