package tally_test

import (
	"math"
	"math/rand"
	"slices"
	"testing"

	"echelon/api"
	"echelon/tally"
)

// top is what servers' numbers stay below.
const top = 1 << 20

// edges are numbers of which some may be an index, and some may not; a call takes all of them.
func edges() []int {
	return []int{math.MinInt, math.MinInt + 1, -top, -2, -1, 0, 1, 2, 3, top - 1, top, 1<<32 + 1, math.MaxInt - 1, math.MaxInt}
}

func ids(ns ...int) []int { return ns }

func conf(voters, learners []int) api.Conf {
	return api.Conf{Voters: voters, Learners: learners}
}

// row is so many numbers, from one on.
func row(from, n int) []int {
	var ns []int
	for i := range n {
		ns = append(ns, from+i)
	}
	return ns
}

// matches are matches of pairs: a server, an index.
func matches(ns ...int) []api.Match {
	var ms []api.Match
	for i := 0; i+1 < len(ns); i += 2 {
		ms = append(ms, api.Match{ID: ns[i], Index: ns[i+1]})
	}
	return ms
}

// drawn are fewer numbers than that, from 0 on, below another one; one may stand twice.
func drawn(r *rand.Rand, fewer, below int) []int {
	var ns []int
	for range r.Intn(fewer) {
		ns = append(ns, r.Intn(below))
	}
	return ns
}

// small are all lists of voters and learners of some rising numbers: each is a voter, a learner, or neither.
func small(of []int) []api.Conf {
	cs := []api.Conf{{}}
	for _, id := range of {
		for _, c := range cs {
			cs = append(cs, conf(append(slices.Clone(c.Voters), id), c.Learners), conf(c.Voters, append(slices.Clone(c.Learners), id)))
		}
	}
	return cs
}

// odd are configurations that aren't right: voters that stand twice, or fall, or learn, too, or have numbers that no server has.
func odd() []api.Conf {
	return []api.Conf{
		conf(ids(1, 1), nil), conf(ids(1, 1, 2), nil), conf(ids(2, 1, 2), nil), conf(ids(1, 1, 2, 2), nil), conf(ids(1, 1, 2, 4), nil), conf(ids(0, 0, 0, 1, 2), nil),
		conf(ids(4, 2, 1), nil), conf(ids(2, 0, 1), ids(4)), conf(ids(1, 2, 4), ids(1, 2, 4)), conf(ids(1, 2), ids(1)), conf(ids(4, 4), ids(2, 1)), conf(nil, ids(1, 2)), conf(ids(-1, top, 1), nil),
		conf(row(0, 10), row(10, 4)), conf(ids(math.MinInt, math.MaxInt, 0), nil),
	}
}

// each calls with each row of so many numbers from 0 on, below a count.
func each(n, count int, call func([]int)) {
	row := make([]int, n)
	for {
		call(row)
		i := 0
		for i < n && row[i] == count-1 {
			row[i] = 0
			i++
		}
		if i == n {
			return
		}
		row[i]++
	}
}

// spill overwrites a list and its spare room.
func spill(ns []int) {
	ns = ns[:cap(ns)]
	for i := range ns {
		ns[i] = -99
	}
}

// roomy is a list with other numbers in the spare room behind it, and all of that.
func roomy(ns ...int) ([]int, []int) {
	all := append(append(make([]int, 0, len(ns)+5), ns...), -7, -8, -9)
	return all[:len(ns)], all
}

// stays holds what is told of an object to hang on nothing that becomes of the lists that it was made of: those of one are overwritten, those of another one aren't.
func stays(t *testing.T, what string, begin func(c api.Conf, some []int) func() int) {
	t.Helper()
	voters, allVoters := roomy(1, 2, 3)
	learners, allLearners := roomy(5, 6)
	some, allSome := roomy(1, 3, 3)
	tell := begin(conf(voters, learners), some)
	if !slices.Equal(allVoters, ids(1, 2, 3, -7, -8, -9)) || !slices.Equal(allLearners, ids(5, 6, -7, -8, -9)) || !slices.Equal(allSome, ids(1, 3, 3, -7, -8, -9)) {
		t.Errorf("%s: what was handed in is %v, %v, %v", what, allVoters, allLearners, allSome)
	}
	spill(voters)
	spill(learners)
	spill(some)
	if got, want := tell(), begin(conf(ids(1, 2, 3), ids(5, 6)), ids(1, 3, 3))(); got != want {
		t.Errorf("%s: it hangs on what was handed in: %d, not %d", what, got, want)
	}
}

// stands holds a poll to stand so.
func stands(t *testing.T, what string, p *tally.Poll, want int) {
	t.Helper()
	for range 2 {
		if got := p.Stands(); got != want {
			t.Fatalf("P9.2: %s: %d, not %d", what, got, want)
		}
	}
}

// at holds a peer to be that far.
func at(t *testing.T, what string, k *tally.Track, id, match, next int) {
	t.Helper()
	if k.Match(id) != match || k.Next(id) != next {
		t.Fatalf("P9.3: %s: of %d the match %d, the next %d, not %d, %d", what, id, k.Match(id), k.Next(id), match, next)
	}
}

// has holds a track to have just these matches.
func has(t *testing.T, what string, k *tally.Track, ns ...int) {
	t.Helper()
	if got := k.All(); !slices.Equal(got, matches(ns...)) {
		t.Fatalf("P9.3: %s: %v, not %v", what, got, matches(ns...))
	}
}
