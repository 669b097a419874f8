package vault_test

import (
	"fmt"
	"math"
	"slices"
	"testing"

	"echelon/api"
)

// TestSnaps: Compact and Install at each place, of each term: at the mark, ahead of it, at an entry, at its number with another term, behind the last one; and of snapshots that may not be.
func TestSnaps(t *testing.T) {
	for _, p := range []plain{{state: nobody}, {nobody, api.Snap{}, run(1, 1, 2, 2, 4)}, {nobody, snap(5, 3), nil}, {nobody, snap(5, 3), run(6, 3)}, based()} {
		for _, index := range []int{math.MinInt, -1, 0, 1, 2, 3, 4, 5, 6, 7, 8, 99, top - 1, top, math.MaxInt} {
			for _, term := range []int{math.MinInt, -1, 0, 1, 2, 3, 4, 5, top - 1, top, math.MaxInt} {
				x := snap(index, term)
				ends(t, "P11.3: Compact", p, call{what: "c", x: x})
				ends(t, "P11.3: Install", p, call{what: "i", x: x})
			}
		}
	}
}

// TestSnapsAgain: one snapshot behind the other, by both, each of which is the newest then; the same one isn't put twice.
func TestSnapsAgain(t *testing.T) {
	for _, size := range []int{1, 35, 999} {
		p := plain{state(4, 1), api.Snap{}, run(1, 1, 1, 1, 2, 2, 2, 3, 3, 3)}
		v, d := opened(t, size, p)
		for i := range 9 {
			x := snap(i+1, p.log[0].Term)
			put := v.Compact
			if i%2 > 0 {
				put = v.Install
			}
			is(t, "P11.3", put(x), api.OK)
			p.snap, p.log = x, p.log[1:]
			holds(t, "P11.3: again", v, p)
			is(t, "P11.3: the same again", v.Compact(x), api.ErrArg)
			is(t, "P11.3: the same again", v.Install(x), api.ErrArg)
			is(t, "P11.3: an elder one", v.Compact(snap(i, 1)), api.ErrArg)
			is(t, "P11.3: an elder one", v.Install(snap(i, 1)), api.ErrArg)
			holds(t, "P11.3: again", v, p)
			if i%3 == 0 {
				v = outlives(t, "P11.3: again", d, size, p)
			}
		}
		files(t, "P11.3: nothing is left but the newest", d, slot(0), name(9))
	}
}

// files holds the names of a disk's files against those that are to be there.
func files(t *testing.T, what string, d interface{ Names() []string }, want ...string) {
	t.Helper()
	if got := d.Names(); !slices.Equal(got, want) {
		t.Fatalf("%s: the files are %q, not %q", what, got, want)
	}
}

// TestSnapFiles: which files are left: of the log the segments with entries behind the place, of snapshots the newest, nothing aside, and what isn't the vault's.
func TestSnapFiles(t *testing.T) {
	for _, c := range []struct {
		what  call
		files []string
	}{
		{call{what: "c", x: snap(3, 1)}, []string{seg(3), seg(5), name(3)}},
		{call{what: "c", x: snap(4, 2)}, []string{seg(5), name(4)}},
		{call{what: "c", x: snap(6, 4)}, []string{name(6)}},
		{call{what: "i", x: snap(3, 1)}, []string{seg(3), seg(5), name(3)}},
		{call{what: "i", x: snap(3, 2)}, []string{name(3)}},
		{call{what: "i", x: snap(5, 2)}, []string{seg(5), name(5)}},
		{call{what: "i", x: snap(7, 4)}, []string{name(7)}},
	} {
		v, d := opened(t, 30, based())
		files(t, "P11.2", d, slot(0), seg(3), seg(5), name(2))
		for _, other := range []string{name(1), "snap-new", "agent", "zz"} {
			is(t, "P3.2", d.Append(other, []byte("x")), api.OK)
		}
		is(t, fmt.Sprintf("P11.3: %v", c.what), does(v, c.what), api.OK)
		want := append([]string{"agent", slot(0)}, c.files...)
		files(t, fmt.Sprintf("P11.3: %v", c.what), d, append(want, "zz")...)
	}
}

// TestSnapBytes: a snapshot without Conf and Body, and a great one.
func TestSnapBytes(t *testing.T) {
	great := snap(4, 2)
	great.Conf, great.Body = make([]byte, 1<<16), make([]byte, 3<<20)
	great.Body[1<<20] = 7
	for _, x := range []api.Snap{{Mark: mark(4, 2)}, great} {
		d := space(t, 1<<23)
		v := open(t, "P11.1", d, 99)
		is(t, "P11.2", v.Keep(state(4, 1), 0, run(1, 1, 1, 2, 2, 4)...), api.OK)
		is(t, "P11.3: Compact", v.Compact(x), api.OK)
		outlives(t, "P11.3: Compact", d, 99, plain{state(4, 1), x, run(5, 4)})
		y := x
		y.Mark = mark(9, 9)
		is(t, "P11.3: Install", v.Install(y), api.OK)
		outlives(t, "P11.3: Install", d, 99, plain{state(4, 1), y, nil})
	}
}
