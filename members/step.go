package members

import (
	"slices"

	"echelon/api"
)

// step is what a change does to a configuration that is right, in that one's own lists; beside an error, nothing.
type step func(c *api.Conf) api.Errno

// stepOf is the step of a change: is there one?
func stepOf(ch api.Change) (step, bool) {
	if !isID(ch.ID) {
		return nil, false
	}
	switch ch.Do {
	case api.AddLearner:
		return addLearner(ch.ID), true
	case api.Promote:
		return promote(ch.ID), true
	case api.RemovePeer:
		return removePeer(ch.ID), true
	}
	return nil, false
}

// addLearner lets one that isn't in it learn. ErrConf.
func addLearner(id int) step {
	return func(c *api.Conf) api.Errno {
		if Has(*c, id) || size(*c) >= api.MaxPeers {
			return api.ErrConf
		}
		c.Learners = with(c.Learners, id)
		return api.OK
	}
}

// promote lets a learner vote. ErrConf.
func promote(id int) step {
	return func(c *api.Conf) api.Errno {
		if !slices.Contains(c.Learners, id) {
			return api.ErrConf
		}
		c.Learners, c.Voters = without(c.Learners, id), with(c.Voters, id)
		return api.OK
	}
}

// removePeer takes one out. ErrConf, ErrLast.
func removePeer(id int) step {
	return func(c *api.Conf) api.Errno {
		if !Has(*c, id) {
			return api.ErrConf
		}
		if Votes(*c, id) && len(c.Voters) == 1 {
			return api.ErrLast
		}
		c.Voters, c.Learners = without(c.Voters, id), without(c.Learners, id)
		return api.OK
	}
}

// with lays a number among those that rise.
func with(ids []int, id int) []int {
	at, _ := slices.BinarySearch(ids, id)
	return slices.Insert(ids, at, id)
}

// without takes a number from among those that rise, if it is there.
func without(ids []int, id int) []int {
	at, ok := slices.BinarySearch(ids, id)
	if !ok {
		return ids
	}
	return slices.Delete(ids, at, at+1)
}
