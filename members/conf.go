package members

import (
	"slices"

	"echelon/api"
)

// isID: may a server have that number?
func isID(id int) bool {
	return id >= 0 && id < api.MaxID
}

// isConf: is it a configuration?
func isConf(c api.Conf) bool {
	if len(c.Voters) == 0 || size(c) > api.MaxPeers {
		return false
	}
	both := func(id int) bool { return Votes(c, id) }
	return rise(c.Voters) && rise(c.Learners) && !slices.ContainsFunc(c.Learners, both)
}

// rise: are they numbers of servers, each above the one ahead of it?
func rise(ids []int) bool {
	for i, id := range ids {
		if !isID(id) || i > 0 && id <= ids[i-1] {
			return false
		}
	}
	return true
}

// size is how many take part.
func size(c api.Conf) int {
	return len(c.Voters) + len(c.Learners)
}

// copied is a configuration with lists of its own.
func copied(c api.Conf) api.Conf {
	c.Voters = append([]int(nil), c.Voters...)
	c.Learners = append([]int(nil), c.Learners...)
	return c
}

// valOf is numbers as a list.
func valOf(ids []int) api.Val {
	vs := make([]api.Val, len(ids))
	for i, id := range ids {
		vs[i].N = uint64(id)
	}
	return api.Val{L: vs}
}

// idsOf are a list's numbers. One above the ints comes to be one below 0, which no server has.
func idsOf(v api.Val) []int {
	ids := make([]int, len(v.L))
	for i, x := range v.L {
		ids[i] = int(x.N)
	}
	return ids
}
