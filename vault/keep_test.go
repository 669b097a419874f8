package vault_test

import (
	"fmt"
	"math"
	"slices"
	"testing"

	"echelon/api"
)

// based is a vault that has a snapshot at (2, 1) and entries 3 to 6, of the terms 1, 2, 2, 4.
func based() plain {
	return plain{state(4, 1), snap(2, 1), run(3, 1, 2, 2, 4)}
}

// does one call on a vault.
func does(v interface {
	Keep(s api.State, from int, es ...api.Entry) api.Errno
	Compact(x api.Snap) api.Errno
	Install(x api.Snap) api.Errno
}, c call) api.Errno {
	switch c.what {
	case "k":
		return v.Keep(c.s, c.from, c.es...)
	case "c":
		return v.Compact(c.x)
	}
	return v.Install(c.x)
}

// ends holds what a call answers, and what is there behind it and behind a crash, against the plain one's last stage.
func ends(t *testing.T, what string, p plain, c call) {
	t.Helper()
	for _, size := range []int{1, 18, 35, 999} {
		what := fmt.Sprintf("%s: size %d, %v", what, size, c)
		v, d := opened(t, size, p)
		all := tell(d)
		stages, want := p.stages(c)
		is(t, what, does(v, c), want)
		then := stages[len(stages)-1]
		holds(t, what, v, then)
		if want != api.OK && len(stages) == 1 {
			if got := tell(d); got != all {
				t.Fatalf("%s: there is %s, not %s", what, got, all)
			}
		}
		outlives(t, what, d, size, then)
	}
}

// TestExample is the chapter's.
func TestExample(t *testing.T) {
	d := space(t, 999)
	v := open(t, "P11.1", d, 50)
	is(t, "P11.2", v.Keep(state(1, 0), 0, run(1, 1, 1)...), api.OK)
	is(t, "P11.3", v.Compact(snap(2, 1)), api.OK)
	holds(t, "P11.3", v, plain{state(1, 0), snap(2, 1), nil})
	is(t, "P11.3", v.Compact(snap(9, 1)), api.ErrArg)
	is(t, "P11.3", v.Install(snap(9, 3)), api.OK)
	outlives(t, "P11.4", d, 50, plain{state(1, 0), snap(9, 3), nil})
}

// TestKeepStates: a state that may not follow is refused ahead of all else, another one is kept whatever comes then.
func TestKeepStates(t *testing.T) {
	for _, has := range []api.State{nobody, state(4, -1), state(4, 1)} {
		for _, s := range []api.State{nobody, state(0, 0), state(3, 9), state(4, -1), state(4, 0), state(4, 1), state(5, -1), state(5, 7), state(5, -2), state(-1, -1), state(math.MinInt, 1), state(1<<62-1, 1<<62-1), state(1<<62, 1), state(5, 1<<62), state(math.MaxInt, math.MaxInt)} {
			for _, from := range []int{-1, 0, 2, 5, 99} {
				for _, es := range [][]api.Entry{nil, run(5, 4), run(7, 4), run(9, 4)} {
					p := based()
					p.state = has
					ends(t, "P11.2: states", p, call{what: "k", s: s, from: from, es: es})
				}
			}
		}
	}
}

// TestKeepFrom: from below 1 cuts nothing, at the place or ahead of it is refused, behind the last entry cuts nothing, and else that entry and all behind it; what comes is held against what is left.
func TestKeepFrom(t *testing.T) {
	for _, p := range []plain{{state: nobody}, {nobody, api.Snap{}, run(1, 1, 2, 2, 4)}, {nobody, snap(5, 3), nil}, based()} {
		for _, from := range []int{math.MinInt, -1, 0, 1, 2, 3, 4, 5, 6, 7, 8, 99, math.MaxInt} {
			for first := 0; first <= 8; first++ {
				for _, terms := range [][]int{nil, {1}, {2}, {4}, {9}, {4, 4, 9}, {4, 2}} {
					ends(t, "P11.2: from", p, call{what: "k", s: state(5, 1), from: from, es: run(first, terms...)})
				}
			}
		}
	}
}

// TestKeepEntries: entries that may not come: none of them does, though the state is kept, and what was to be cut is.
func TestKeepEntries(t *testing.T) {
	body := func(n int) api.Entry { return api.Entry{Index: 7, Term: 4, Body: make([]byte, n)} }
	kind := func(k int) api.Entry { return api.Entry{Index: 7, Term: 4, Kind: k} }
	for _, es := range [][]api.Entry{
		{{}},
		{{Index: 7}},
		{{Term: 4}},
		{{Index: 7, Term: 4}},
		{{Index: 7, Term: 4, Body: []byte{}}},
		{at(7, 3)},
		{at(7, 4), at(9, 4)},
		{at(7, 4), at(7, 4)},
		{at(7, 4), at(8, 3)},
		{at(7, 4), at(8, 0)},
		{at(7, 4), {}},
		{at(8, 4), at(7, 4)},
		{at(6, 4), at(7, 4)},
		{at(7, -4)},
		{at(-7, 4)},
		{{Index: math.MinInt, Term: math.MinInt}},
		{{Index: math.MaxInt, Term: math.MaxInt}},
		{{Index: 7, Term: top - 1}},
		{{Index: 7, Term: top}},
		{kind(0), {Index: 8, Term: 4, Kind: 2}},
		{kind(255)},
		{kind(256)},
		{kind(-1)},
		{at(7, 4), {Index: 8, Term: 4, Kind: 256}},
	} {
		for _, from := range []int{0, 6, 7} {
			ends(t, "P11.2: entries", based(), call{what: "k", s: state(4, 1), from: from, es: es})
			ends(t, "P11.2: entries, and a state", based(), call{what: "k", s: state(6, 1), from: from, es: es})
		}
	}
	d := space(t, 1<<22)
	v := open(t, "P11.1", d, 1<<20)
	p := plain{nobody, snap(6, 4), nil}
	is(t, "P11.3", v.Install(p.snap), api.OK)
	is(t, "P11.2: a body of more than MaxBody", v.Keep(nobody, 0, body(1<<20+1)), api.ErrArg)
	holds(t, "P11.2: a body of more than MaxBody", v, p)
	is(t, "P11.2: a body of MaxBody", v.Keep(nobody, 0, body(1<<20)), api.OK)
	p.log = []api.Entry{body(1 << 20)}
	outlives(t, "P11.2: a body of MaxBody", d, 1<<20, p)
	p = plain{nobody, snap(top-2, 1), nil}
	is(t, "P11.3: the greatest but one", v.Install(p.snap), api.OK)
	is(t, "P11.2: the greatest Index, and one more", v.Keep(nobody, 0, run(top-1, 1, 1)...), api.ErrArg)
	holds(t, "P11.2: the greatest Index, and one more", v, p)
	is(t, "P11.2: the greatest Index", v.Keep(nobody, 0, run(top-1, 1)...), api.OK)
	p.log = run(top-1, 1)
	outlives(t, "P11.2: the greatest Index", d, 1<<20, p)
}

// TestKeepNothing: of the same state and no entries nothing is written.
func TestKeepNothing(t *testing.T) {
	v, d := opened(t, 18, based())
	all := tell(d)
	d.Stop(0)
	for _, from := range []int{math.MinInt, 0, 7, 8, math.MaxInt} {
		is(t, "P11.2: nothing to be kept", v.Keep(state(4, 1), from), api.OK)
	}
	is(t, "P11.2: from at the place", v.Keep(state(4, 1), 2), api.ErrArg)
	if got := tell(d); got != all {
		t.Errorf("P11.2: nothing to be kept: there is %s, not %s", got, all)
	}
	holds(t, "P11.2: nothing to be kept", v, based())
}

// TestKeepPart: where the disk may have no file more in the middle of the entries, those that came stay, unsynced; the next that are kept make all safe, and a Keep without entries doesn't.
func TestKeepPart(t *testing.T) {
	d := space(t, 99999)
	for i := range 4093 {
		is(t, "P3.2", d.Append(fmt.Sprintf("f%04d", i)), api.OK)
	}
	v := open(t, "P11.1", d, 1)
	is(t, "P11.2: two files are left for three entries", v.Keep(state(1, 1), 0, run(1, 1, 1, 1)...), api.ErrFull)
	part := plain{state(1, 1), api.Snap{}, run(1, 1, 1)}
	if s := differs(v, part); s != "" || v.Synced() != 0 {
		t.Fatalf("P11.2: two of three: synced %d; %s", v.Synced(), s)
	}
	is(t, "P11.2: no entries", v.Keep(state(1, 1), 0), api.OK)
	if v.Synced() != 0 || d.Safe(seg(1)) != 0 || d.Safe(seg(2)) != 0 {
		t.Fatalf("P11.2: no entries: synced %d", v.Synced())
	}
	is(t, "P3.3", d.Remove("f0000", "f0001"), api.OK)
	is(t, "P11.2: and on", v.Keep(state(2, 1), 0, run(3, 1)...), api.OK)
	holds(t, "P11.2: and on", v, plain{state(2, 1), api.Snap{}, run(1, 1, 1, 1)})
	outlives(t, "P11.2: and on", d, 1, plain{state(2, 1), api.Snap{}, run(1, 1, 1, 1)})
}

// TestKeepRows: very many entries, and long rows of them.
func TestKeepRows(t *testing.T) {
	d := space(t, 1<<22)
	v := open(t, "P11.1", d, 4096)
	var es []api.Entry
	for i := range 20000 {
		es = append(es, api.Entry{Index: i + 1, Term: 1 + i/7000, Kind: i % 256, Body: []byte{byte(i), byte(i >> 8)}})
	}
	is(t, "P11.2: very many", v.Keep(state(3, 0), 0, es[:15000]...), api.OK)
	for i := 15000; i < len(es); i += 50 {
		is(t, "P11.2: row by row", v.Keep(state(3+i, 0), i+1, es[i:i+50]...), api.OK)
	}
	if v.Last().Index != 20000 || v.Synced() != 20000 {
		t.Fatalf("P11.2: Last %v, Synced %d", v.Last(), v.Synced())
	}
	is(t, "P11.3", v.Compact(snap(10000, es[9999].Term)), api.OK)
	d.Crash()
	v = open(t, "P11.4", d, 4096)
	got := has(v)
	if got.state != state(19953, 0) || got.snap.Index != 10000 || !slices.EqualFunc(got.log, es[10000:], sameEntry) {
		t.Fatalf("P11.4: the state %v, the place %v, %d entries", got.state, got.snap.Mark, len(got.log))
	}
}
