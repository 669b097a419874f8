package tally_test

import (
	"math"
	"math/rand"
	"slices"
	"testing"

	"echelon/api"
	"echelon/tally"
)

// TestCommit: the examples and the edges: how many voters there are, whose matches count, and which of several.
func TestCommit(t *testing.T) {
	one, two, three, four := conf(ids(4), nil), conf(ids(1, 2), nil), conf(ids(1, 2, 3), ids(5, 6)), conf(ids(1, 2, 3, 4), ids(5))
	for _, x := range []struct {
		c    api.Conf
		ms   []api.Match
		want int
	}{
		{three, matches(1, 5, 2, 3), 3}, {three, matches(1, 5), 0}, // the chapter's
		{three, nil, 0}, {three, []api.Match{}, 0}, {one, nil, 0}, {api.Conf{}, nil, 0}, {api.Conf{}, matches(0, 5), 0}, {conf(nil, ids(1, 2)), matches(1, 5, 2, 5), 0}, {conf(ids(), ids(0)), matches(0, 9), 0},
		{one, matches(4, 7), 7}, {one, matches(1, 7), 0}, {one, matches(4, -7), 0}, {one, matches(4, 0), 0}, {conf(ids(0), nil), matches(0, 3), 3}, {conf(ids(0), nil), matches(1, 3), 0},
		{two, matches(1, 5, 2, 3), 3}, {two, matches(1, 3, 2, 5), 3}, {two, matches(1, 5), 0}, {two, matches(2, 5, 2, 6), 0}, {two, matches(1, 5, 2, 5), 5},
		{three, matches(1, 9, 2, 6, 3, 4), 6}, {three, matches(3, 4, 1, 9, 2, 6), 6}, {three, matches(1, 6, 2, 6, 3, 1), 6}, {three, matches(1, 1, 2, 6, 3, 6), 6},
		{four, matches(1, 9, 2, 6, 3, 4, 4, 1), 4}, {four, matches(1, 9, 2, 9), 0}, {four, matches(1, 9, 2, 9, 3, 1), 1}, {four, matches(4, 9, 3, 9, 2, 9), 9},
		{three, matches(1, 5, 1, 5, 1, 5), 0}, {three, matches(1, 5, 2, 3, 2, 4), 4}, {three, matches(1, 5, 2, 4, 2, 3), 4}, {three, matches(2, 4, 1, 2, 2, 3, 1, 5), 4}, {three, matches(1, 5, 2, 4, 2, -1, 1, 0), 4},
		{three, matches(1, -5, 2, -5, 3, -5), 0}, {three, matches(1, 5, 2, -1, 3, -9), 0}, {three, matches(1, 5, 2, -1, 2, 3), 3}, {three, matches(1, -1, 2, 1, 3, 2), 1},
		{three, matches(1, 5, 5, 5, 6, 5), 0}, {three, matches(1, 5, 7, 5, -1, 5, 0, 5), 0}, {three, matches(5, 9, 1, 5, 6, 9, 2, 3, 7, 9), 3}, {three, matches(5, 9, 6, 9, 7, 9), 0},
		{three, matches(1, math.MaxInt, 2, math.MaxInt), math.MaxInt}, {three, matches(1, math.MaxInt, 2, 3), 3}, {three, matches(1, math.MaxInt, 2, math.MinInt), 0}, {three, matches(1, math.MinInt, 2, math.MinInt, 3, math.MinInt), 0},
		{one, matches(4, math.MaxInt), math.MaxInt}, {one, matches(4, math.MinInt), 0}, {one, matches(4, math.MaxInt-1, 4, math.MinInt), math.MaxInt - 1},
	} {
		if got := tally.Commit(x.c, x.ms...); got != x.want {
			t.Errorf("P9.1: Commit(%v, %v): %d, not %d", x.c, x.ms, got, x.want)
		}
	}
}

// TestCommitOdd: of what isn't right, each voter as it stands: one that stands twice is two.
func TestCommitOdd(t *testing.T) {
	for _, x := range []struct {
		c    api.Conf
		ms   []api.Match
		want int
	}{
		{conf(ids(1, 1), nil), matches(1, 5), 5}, {conf(ids(1, 1, 2), nil), matches(1, 5), 5}, {conf(ids(1, 1, 2), nil), matches(2, 5), 0}, {conf(ids(1, 1, 2), nil), matches(2, 5, 1, 3), 3},
		{conf(ids(1, 2, 1), nil), matches(1, 5, 2, 9), 5}, {conf(ids(1, 1, 2, 2), nil), matches(1, 5, 2, 3), 3}, {conf(ids(1, 1, 2, 3), nil), matches(1, 5), 0}, {conf(ids(1, 1, 2, 3), nil), matches(1, 5, 3, 2), 2},
		{conf(ids(3, 2, 1), nil), matches(1, 5, 3, 3), 3}, {conf(ids(9, 1, 5), nil), matches(9, 1, 1, 2, 5, 3), 2},
		{conf(ids(1, 2, 3), ids(1, 2)), matches(1, 5, 2, 4), 4}, {conf(ids(1, 2, 3), ids(1)), matches(1, 5), 0}, {conf(ids(1), ids(1)), matches(1, 5), 5},
		{conf(ids(-1, top, 3), nil), matches(-1, 5, top, 6), 5}, {conf(ids(math.MinInt, math.MaxInt), nil), matches(math.MaxInt, 5, math.MinInt, 6), 5},
		{conf(row(0, 10), nil), matches(0, 9, 1, 9, 2, 9, 3, 9, 4, 9), 0}, {conf(row(0, 10), nil), matches(0, 9, 1, 9, 2, 9, 3, 9, 4, 9, 9, 4), 4},
	} {
		if got := tally.Commit(x.c, x.ms...); got != x.want {
			t.Errorf("P9.1: Commit(%v, %v): %d, not %d", x.c, x.ms, got, x.want)
		}
	}
}

// reach is how many of the voters have an index.
func reach(c api.Conf, index int, ms []api.Match) int {
	n := 0
	for _, id := range c.Voters {
		if index <= 0 || slices.ContainsFunc(ms, func(m api.Match) bool { return m.ID == id && m.Index >= index }) {
			n++
		}
	}
	return n
}

// slow is the greatest of the matches' indexes that more than half of the voters have.
func slow(c api.Conf, ms []api.Match) int {
	best := 0
	for _, m := range ms {
		if m.Index > best && 2*reach(c, m.Index, ms) > len(c.Voters) {
			best = m.Index
		}
	}
	if len(c.Voters) == 0 {
		return 0
	}
	return best
}

// TestCommitSmall: of each small configuration and its matches a majority has what Commit answers, none has more, and it doesn't fall when a match rises; one that isn't a voter's changes nothing.
func TestCommitSmall(t *testing.T) {
	of := ids(0, 1, 2, 4)
	for _, c := range append(small(of), odd()...) {
		each(len(of), 4, func(indexes []int) {
			var ms []api.Match
			for i, id := range of {
				ms = append(ms, api.Match{ID: id, Index: indexes[i]})
			}
			n := tally.Commit(c, ms...)
			if n != slow(c, ms) {
				t.Fatalf("P9.1: Commit(%v, %v): %d, not %d", c, ms, n, slow(c, ms))
			}
			if len(c.Voters) > 0 && (2*reach(c, n, ms) <= len(c.Voters) || 2*reach(c, n+1, ms) > len(c.Voters)) {
				t.Fatalf("P9.4: Commit(%v, %v): %d have %d, and %d one more", c, ms, reach(c, n, ms), n, reach(c, n+1, ms))
			}
			for i, id := range of {
				up := slices.Clone(ms)
				up[i].Index++
				for _, risen := range [][]api.Match{up, append(slices.Clone(ms), up[i]), append(up[i:i+1:i+1], ms...)} {
					if now := tally.Commit(c, risen...); now < n || now > n && !slices.Contains(c.Voters, id) || now != slow(c, risen) {
						t.Fatalf("P9.4: Commit(%v, %v): %d, and with %v: %d", c, ms, n, risen, now)
					}
				}
			}
		})
	}
}

// TestCommitModel: long rows of matches, of whomever, and in whatever order.
func TestCommitModel(t *testing.T) {
	for seed := range int64(4000) {
		r := rand.New(rand.NewSource(seed))
		c := conf(drawn(r, 11, 12), drawn(r, 4, 12))
		var ms []api.Match
		last := 0
		for range 30 {
			m := api.Match{ID: r.Intn(14) - 1, Index: r.Intn(12) - 3}
			if r.Intn(10) == 0 {
				m.Index = edges()[r.Intn(len(edges()))]
			}
			ms = slices.Insert(ms, r.Intn(len(ms)+1), m)
			got := tally.Commit(c, ms...)
			if got != slow(c, ms) {
				t.Fatalf("P9.1: Commit(%v, %v): %d, not %d", c, ms, got, slow(c, ms))
			}
			if got < last {
				t.Fatalf("P9.4: Commit(%v, %v): %d, and ahead of it %d", c, ms, got, last)
			}
			last = got
		}
	}
}

// TestCommitMany: it comes to an end of very many voters and matches, too.
func TestCommitMany(t *testing.T) {
	const many = 1 << 17
	var ms []api.Match
	for i := range many {
		ms = append(ms, api.Match{ID: i, Index: i}, api.Match{ID: i, Index: -i}, api.Match{ID: -i, Index: many})
	}
	if got := tally.Commit(conf(row(1, many-1), row(0, many)), ms...); got != many/2 {
		t.Errorf("P9.1: Commit of very many: %d", got)
	}
}

// TestCommitHandedIn: what is handed in stays as it is, its spare room included, and no call tells what was asked ahead of it.
func TestCommitHandedIn(t *testing.T) {
	voters, allVoters := roomy(3, 1, 2)
	learners, allLearners := roomy(9, 5)
	ms := matches(3, 1, 1, 9, 5, 8, 2, -4, 1, 2, 2, 6, 8, 8, 8, 8)
	was := slices.Clone(ms)
	for range 3 {
		if got := tally.Commit(conf(voters, learners), ms[:6]...); got != 6 {
			t.Errorf("P9.1: Commit: %d", got)
		}
	}
	if !slices.Equal(ms, was) || !slices.Equal(allVoters, ids(3, 1, 2, -7, -8, -9)) || !slices.Equal(allLearners, ids(9, 5, -7, -8, -9)) {
		t.Errorf("P9.1: what was handed in is %v, %v, %v", ms, allVoters, allLearners)
	}
}
