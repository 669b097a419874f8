package members_test

import (
	"fmt"
	"math"
	"slices"
	"testing"

	"echelon/api"
	"echelon/members"
)

// top is what servers' numbers stay below; mostPeers is how many may take part.
const (
	top       = 1 << 20
	mostPeers = 9
)

// edges are numbers, of which some a server may have, and some it may not.
func edges() []int {
	return []int{math.MinInt, math.MinInt + 1, -top, -2, -1, 0, 1, 2, top - 1, top, top + 1, 1<<32 + 1, math.MaxInt - 1, math.MaxInt}
}

// may: may a server have that number?
func may(id int) bool { return id >= 0 && id < top }

func ids(ns ...int) []int { return ns }

func conf(voters, learners []int) api.Conf {
	return api.Conf{Voters: voters, Learners: learners}
}

// row is so many numbers, from one on.
func row(from, n int) []int {
	var ns []int
	for i := range n {
		ns = append(ns, from+i)
	}
	return ns
}

// same: are both one configuration, nil and empty lists being one?
func same(a, b api.Conf) bool {
	return slices.Equal(a.Voters, b.Voters) && slices.Equal(a.Learners, b.Learners)
}

func add(id int) api.Change     { return api.Change{Do: 1, ID: id} }
func promote(id int) api.Change { return api.Change{Do: 2, ID: id} }
func remove(id int) api.Change  { return api.Change{Do: 3, ID: id} }

// nexts holds what changes make of a configuration against what they are to make; beside an error that is nothing.
func nexts(t *testing.T, what string, c, want api.Conf, e api.Errno, changes ...api.Change) {
	t.Helper()
	if e != api.OK {
		want = api.Conf{}
	}
	if got, f := members.Next(c, changes...); f != e || !same(got, want) {
		t.Fatalf("%s: Next(%v, %v): %v, %d, not %v, %d", what, c, changes, got, f, want, e)
	}
}

// parses holds what bytes are the configuration of against what they are to be.
func parses(t *testing.T, what string, b []byte, want api.Conf, e api.Errno) {
	t.Helper()
	if e != api.OK {
		want = api.Conf{}
	}
	if got, f := members.Parse(b); f != e || !same(got, want) {
		t.Fatalf("%s: Parse(%x): %v, %d, not %v, %d", what, b, got, f, want, e)
	}
}

// smallIDs are numbers of which small configurations are made.
func smallIDs() []int { return []int{0, 1, 2, 7, 300, top - 1} }

// small are all configurations of some rising numbers: each is a voter, a learner, or neither.
func small(of []int) []api.Conf {
	cs := []api.Conf{{}}
	for _, id := range of {
		for _, c := range cs {
			cs = append(cs, conf(append(slices.Clone(c.Voters), id), c.Learners), conf(c.Voters, append(slices.Clone(c.Learners), id)))
		}
	}
	return slices.DeleteFunc(cs, func(c api.Conf) bool { return len(c.Voters) == 0 })
}

// full are configurations of so many servers, one for each number of voters.
func full(n int) []api.Conf {
	var cs []api.Conf
	for v := 1; v <= n; v++ {
		cs = append(cs, conf(row(10, v), row(10+v, n-v)), conf(row(10+n-v, v), row(10, n-v)))
	}
	return cs
}

// wrong are what isn't a configuration.
func wrong() []api.Conf {
	cs := []api.Conf{
		{}, conf(ids(), ids()), conf(nil, ids(1)), conf(nil, row(0, mostPeers)),
		conf(ids(2, 1), nil), conf(ids(1, 3, 2), nil), conf(ids(1, 1), nil), conf(ids(1, 2, 2), nil), conf(ids(2, 3, 2), nil),
		conf(ids(9), ids(2, 1)), conf(ids(9), ids(1, 3, 2)), conf(ids(9), ids(1, 1)), conf(ids(9), ids(1, 2, 2)),
		conf(ids(1), ids(1)), conf(ids(1, 2, 3), ids(2)), conf(ids(1, 2), ids(2, 3)), conf(ids(2, 3), ids(1, 2)), conf(ids(1, 5), ids(0, 5)), conf(ids(1, 5), ids(1, 6)),
		conf(row(0, mostPeers+1), nil), conf(row(0, mostPeers), ids(20)), conf(ids(20), row(0, mostPeers)), conf(row(0, 5), row(5, 5)), conf(row(0, 500), row(500, 500)),
	}
	for _, id := range edges() {
		if !may(id) {
			cs = append(cs, conf(ids(id), nil), conf(ids(5), ids(id)), conf(ids(id), ids(5)), conf(ids(id, 5), nil), conf(ids(5, id), nil), conf(ids(7), ids(5, id)), conf(ids(7), ids(id, 5)))
		}
	}
	return cs
}

// right are configurations, of one server to as many as may be.
func right() []api.Conf {
	cs := slices.Concat(small(smallIDs()), full(mostPeers), full(mostPeers-1))
	for _, id := range edges() {
		if may(id) {
			cs = append(cs, conf(ids(id), nil), conf(ids(5), ids(id)), conf(ids(id), ids(5)))
		}
	}
	return append(cs, conf(ids(top-2, top-1), nil), conf(ids(5), ids(0, top-1)), conf(ids(0, top-1), ids(1, top-2)))
}

// tell is a configuration and what is told of it.
func tell(c api.Conf) string {
	return fmt.Sprint(c, members.Right(c), members.Quorum(c), members.All(c))
}
