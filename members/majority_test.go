package members_test

import (
	"slices"
	"testing"

	"echelon/api"
	"echelon/members"
)

// among are the numbers of a list whose bits are set.
func among(ns []int, bits int) []int {
	var some []int
	for i, n := range ns {
		if bits>>i&1 == 1 {
			some = append(some, n)
		}
	}
	return some
}

// TestMajority: the edges, numbers that stand twice, learners and strangers.
func TestMajority(t *testing.T) {
	three, four := conf(ids(1, 2, 3), ids(5, 6)), conf(ids(1, 2, 3, 4), ids(5))
	for _, x := range []struct {
		c    api.Conf
		ids  []int
		want bool
	}{
		{three, ids(1, 3), true}, {three, ids(3, 1), true}, {three, ids(2, 3), true}, {three, ids(1, 2, 3), true}, {three, ids(3, 2, 1), true},
		{three, nil, false}, {three, ids(), false}, {three, ids(1), false}, {three, ids(2), false}, {three, ids(3), false},
		{three, ids(1, 1), false}, {three, ids(2, 2, 2, 2), false}, {three, ids(1, 2, 1), true}, {three, ids(3, 3, 3, 1), true},
		{three, ids(1, 5), false}, {three, ids(1, 5, 6), false}, {three, ids(5, 6), false}, {three, ids(5, 1, 6, 2), true},
		{three, ids(1, 7), false}, {three, ids(7, 8, 9), false}, {three, ids(-1, 0, 4, 1), false}, {three, ids(9, -1, 2, 0, 1), true},
		{three, edges(), true}, {conf(ids(2, 3, 4), nil), edges(), false}, {conf(ids(2, 3, 4), nil), append(edges(), 3), true},
		{four, ids(1, 2), false}, {four, ids(3, 4, 5), false}, {four, ids(1, 1, 2), false}, {four, ids(1, 2, 4), true}, {four, ids(4, 3, 2, 1), true},
		{conf(ids(0), nil), ids(0), true}, {conf(ids(0), nil), ids(1), false}, {conf(ids(0), nil), nil, false}, {conf(ids(0), ids(1)), ids(1), false},
		{conf(ids(1, 2), nil), ids(1), false}, {conf(ids(1, 2), nil), ids(2, 1), true}, {conf(ids(1, 2), nil), ids(2, 2), false},
		{conf(row(0, 9), nil), row(0, 4), false}, {conf(row(0, 9), nil), row(4, 5), true}, {conf(row(0, 8), nil), row(0, 4), false}, {conf(row(0, 8), nil), row(3, 5), true},
	} {
		if members.Majority(x.c, x.ids...) != x.want {
			t.Errorf("P8.3: Majority(%v, %v) isn't %t", x.c, x.ids, x.want)
		}
	}
}

// TestMajorityWrong: of what isn't right it goes by the voters as they stand, one that stands twice being two.
func TestMajorityWrong(t *testing.T) {
	for _, x := range []struct {
		c    api.Conf
		ids  []int
		want bool
	}{
		{api.Conf{}, nil, false}, {api.Conf{}, ids(0), false}, {api.Conf{}, edges(), false}, {conf(nil, ids(1)), ids(1), false},
		{conf(ids(1, 1, 2), nil), ids(1), true}, {conf(ids(1, 1, 2), nil), ids(2), false}, {conf(ids(1, 1, 2), nil), ids(2, 2), false}, {conf(ids(1, 1, 2, 3), nil), ids(1), false}, {conf(ids(1, 1, 2, 3), nil), ids(1, 3), true},
		{conf(ids(2, 1, 2), nil), ids(2), true}, {conf(ids(1, 1), nil), ids(1), true}, {conf(ids(5, 5, 5, 5), nil), ids(5), true},
		{conf(ids(3, 2, 1), nil), ids(1, 3), true}, {conf(ids(3, 2, 1), nil), ids(3), false}, {conf(ids(9, 1, 5), nil), ids(1, 9), true},
		{conf(ids(1, 2, 3), ids(1)), ids(1), false}, {conf(ids(1, 2, 3), ids(1, 2, 3)), ids(1, 2), true}, {conf(ids(1, 2), ids(1)), ids(1), false},
		{conf(ids(-1, top), nil), ids(-1, top), true}, {conf(ids(-1, top), nil), ids(top), false}, {conf(ids(-1<<63, 1<<63-1), nil), ids(1<<63-1, -1<<63), true},
		{conf(row(0, 100), nil), row(50, 50), false}, {conf(row(0, 100), nil), row(49, 51), true},
	} {
		if members.Majority(x.c, x.ids...) != x.want {
			t.Errorf("P8.3: Majority(%v, %v) isn't %t", x.c, x.ids, x.want)
		}
	}
}

// TestQuorum: of so many voters, whatever learners there are, and as they stand.
func TestQuorum(t *testing.T) {
	for n, want := range []int{1, 1, 2, 2, 3, 3, 4, 4, 5, 5, 6, 6} {
		for _, c := range []api.Conf{conf(row(0, n), nil), conf(row(0, n), row(n, 4)), conf(make([]int, n), nil)} {
			if q := members.Quorum(c); q != want || 2*q <= n || 2*(q-1) > n {
				t.Errorf("P8.3: Quorum(%v): %d, not %d", c, q, want)
			}
		}
	}
}

// TestMajoritySmall: of small configurations, and of such as aren't right, all of the numbers' lists: they are a majority just if they have a quorum of the voters among them.
func TestMajoritySmall(t *testing.T) {
	numbers := []int{0, 1, 2, 7, 300, top - 1, 3, -1}
	for _, c := range append(small(smallIDs()), conf(ids(0, 0, 1), ids(1)), conf(ids(7, 2, 0), nil), conf(ids(2, 1, 2, 1), ids(7)), conf(ids(-1, 0, 3), ids(-1)), conf(nil, ids(1, 2))) {
		for bits := range 1 << len(numbers) {
			some := among(numbers, bits)
			n := 0
			for _, v := range c.Voters {
				for _, id := range some {
					if v == id {
						n++
					}
				}
			}
			want := 2*n > len(c.Voters)
			if want != (n >= members.Quorum(c)) {
				t.Fatalf("P8.3: Quorum(%v): %d", c, members.Quorum(c))
			}
			back := slices.Clone(some)
			slices.Reverse(back)
			if members.Majority(c, some...) != want || members.Majority(c, append(back, some...)...) != want {
				t.Fatalf("P8.3: Majority(%v, %v) isn't %t", c, some, want)
			}
		}
	}
}

// TestHas: who votes, who is in it, and who isn't.
func TestHas(t *testing.T) {
	for _, x := range []struct {
		c               api.Conf
		voters, in, not []int
	}{
		{conf(ids(1, 2, 3), ids(5)), ids(1, 2, 3), ids(1, 2, 3, 5), ids(-1, 0, 4, 6)},
		{conf(ids(0), ids(top-1)), ids(0), ids(0, top-1), ids(-1, 1, top-2, top)},
		{conf(ids(7), ids(1, 3)), ids(7), ids(1, 3, 7), ids(0, 2, 4, 6, 8)},
		{conf(nil, ids(4)), nil, ids(4), ids(0, 3)},
		{api.Conf{}, nil, nil, edges()},
		{conf(ids(3, 1, 2), ids(9, 8)), ids(1, 2, 3), ids(1, 2, 3, 8, 9), ids(0, 4, 7, 10)},
		{conf(ids(2, 2), ids(2, 1)), ids(2), ids(1, 2), ids(0, 3)},
		{conf(edges(), nil), edges(), edges(), ids(3, -3, top+2)},
		{conf(nil, edges()), nil, edges(), ids(3, -3, top+2)},
	} {
		for _, id := range slices.Concat(x.voters, x.in, x.not, edges()) {
			if got, want := members.Votes(x.c, id), slices.Contains(x.voters, id); got != want {
				t.Errorf("P8.3: Votes(%v, %d): %t", x.c, id, got)
			}
			if got, want := members.Has(x.c, id), slices.Contains(x.in, id); got != want {
				t.Errorf("P8.3: Has(%v, %d): %t", x.c, id, got)
			}
		}
	}
}

// TestAll: all numbers, rising; of what isn't right one that stands twice is two.
func TestAll(t *testing.T) {
	for _, x := range []struct {
		c    api.Conf
		want []int
	}{
		{conf(ids(1, 2, 3), ids(5)), ids(1, 2, 3, 5)}, {conf(ids(5), ids(1, 2, 3)), ids(1, 2, 3, 5)}, {conf(ids(2, 6), ids(0, 4, top-1)), ids(0, 2, 4, 6, top-1)},
		{conf(ids(4), nil), ids(4)}, {conf(nil, ids(4)), ids(4)}, {api.Conf{}, nil},
		{conf(ids(3, 1), ids(2, 0)), ids(0, 1, 2, 3)}, {conf(ids(1, 1), nil), ids(1, 1)}, {conf(ids(1, 2), ids(2, 1)), ids(1, 1, 2, 2)}, {conf(ids(2, 2, 1), ids(2)), ids(1, 2, 2, 2)},
		{conf(ids(1<<63-1, -1), ids(-1<<63)), ids(-1<<63, -1, 1<<63-1)}, {conf(row(50, 50), row(0, 50)), row(0, 100)},
	} {
		if got := members.All(x.c); !slices.Equal(got, x.want) {
			t.Errorf("P8.3: All(%v): %v, not %v", x.c, got, x.want)
		}
	}
	for _, c := range right() {
		m := modelOf(c)
		if got, want := members.All(c), sorted(append(m.all('v'), m.all('l')...)); !slices.Equal(got, want) {
			t.Errorf("P8.3: All(%v): %v, not %v", c, got, want)
		}
	}
}

// TestMany: the calls come to an end of very many numbers, too.
func TestMany(t *testing.T) {
	const many = 1 << 18
	c := conf(row(0, many), row(many, many))
	if !members.Majority(c, row(many/2-1, many)...) || members.Majority(c, row(many/2, many)...) || members.Quorum(c) != many/2+1 {
		t.Error("P8.3: Majority of very many")
	}
	if !members.Has(c, 2*many-1) || members.Votes(c, many) || !slices.Equal(members.All(c), row(0, 2*many)) {
		t.Error("P8.3: Has, Votes, All of very many")
	}
	if members.Right(c) {
		t.Error("P8.1: Right of very many")
	}
	nexts(t, "P8.2: very many", c, c, api.ErrConf, add(1))
	parses(t, "P8.1: very many", members.Bytes(c), c, api.ErrConf)
	var changes []api.Change
	for i := range many {
		changes = append(changes, add(1+i%7), promote(1+i%7), remove(1+i%7))
	}
	nexts(t, "P8.2: very many changes", conf(ids(0), nil), conf(ids(0), nil), api.OK, changes...)
}
