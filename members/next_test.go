package members_test

import (
	"math/rand"
	"slices"
	"testing"

	"echelon/api"
	"echelon/members"
)

// TestNextExamples: the chapter's examples.
func TestNextExamples(t *testing.T) {
	c := conf(ids(1, 2, 3), nil)
	nexts(t, "P8.2", c, conf(ids(1, 2, 3), ids(4)), api.OK, add(4))
	nexts(t, "P8.2", c, conf(ids(1, 2, 3, 4), nil), api.OK, add(4), promote(4))
	if d, _ := members.Next(c, add(4), promote(4)); members.Quorum(d) != 3 {
		t.Errorf("P8.3: Quorum(%v): %d", d, members.Quorum(d))
	}
	nexts(t, "P8.2", conf(ids(1), nil), api.Conf{}, api.ErrLast, remove(1))
}

// TestNext: each change at the front, in the middle and behind, and what each may not be done to.
func TestNext(t *testing.T) {
	c := conf(ids(2, 4, 6), ids(3, 8, 9))
	for _, x := range []struct {
		ch   api.Change
		want api.Conf
		e    api.Errno
	}{
		{add(0), conf(ids(2, 4, 6), ids(0, 3, 8, 9)), api.OK},
		{add(5), conf(ids(2, 4, 6), ids(3, 5, 8, 9)), api.OK},
		{add(top - 1), conf(ids(2, 4, 6), ids(3, 8, 9, top-1)), api.OK},
		{add(2), c, api.ErrConf}, {add(6), c, api.ErrConf}, {add(3), c, api.ErrConf}, {add(9), c, api.ErrConf},
		{promote(3), conf(ids(2, 3, 4, 6), ids(8, 9)), api.OK},
		{promote(8), conf(ids(2, 4, 6, 8), ids(3, 9)), api.OK},
		{promote(9), conf(ids(2, 4, 6, 9), ids(3, 8)), api.OK},
		{promote(2), c, api.ErrConf}, {promote(6), c, api.ErrConf}, {promote(0), c, api.ErrConf}, {promote(7), c, api.ErrConf}, {promote(top - 1), c, api.ErrConf},
		{remove(2), conf(ids(4, 6), ids(3, 8, 9)), api.OK}, {remove(4), conf(ids(2, 6), ids(3, 8, 9)), api.OK}, {remove(6), conf(ids(2, 4), ids(3, 8, 9)), api.OK},
		{remove(3), conf(ids(2, 4, 6), ids(8, 9)), api.OK}, {remove(8), conf(ids(2, 4, 6), ids(3, 9)), api.OK}, {remove(9), conf(ids(2, 4, 6), ids(3, 8)), api.OK},
		{remove(0), c, api.ErrConf}, {remove(5), c, api.ErrConf}, {remove(top - 1), c, api.ErrConf},
	} {
		nexts(t, "P8.2", c, x.want, x.e, x.ch)
	}
}

// TestNextNumbers: a Do of none, and a number that no server may have, are ErrArg, also where something else is wrong, too; but for the configuration.
func TestNextNumbers(t *testing.T) {
	for _, c := range []api.Conf{conf(ids(5), nil), conf(ids(5), ids(7)), conf(row(30, mostPeers), nil), conf(ids(0, 1), ids(top-1))} {
		for _, do := range []int{-1 << 63, -1, 0, 1, 2, 3, 4, 1<<32 + 1, 1<<63 - 1} {
			for _, id := range append(edges(), 5, 7, 30) {
				ch := api.Change{Do: do, ID: id}
				if do < 1 || do > 3 || !may(id) {
					nexts(t, "P8.2", c, c, api.ErrArg, ch)
				} else if _, e := members.Next(c, ch); e == api.ErrArg {
					t.Errorf("P8.2: Next(%v, %v): %d", c, ch, e)
				}
				for _, w := range wrong() {
					nexts(t, "P8.2: not right", w, w, api.ErrConf, ch)
				}
			}
		}
	}
}

// TestNextNone: no changes make the configuration as it is, if it is one.
func TestNextNone(t *testing.T) {
	for _, c := range right() {
		nexts(t, "P8.2", c, c, api.OK)
	}
	for _, c := range wrong() {
		nexts(t, "P8.2", c, c, api.ErrConf)
		nexts(t, "P8.2", c, c, api.ErrConf, add(40))
		nexts(t, "P8.2", c, c, api.ErrConf, api.Change{}, remove(1))
	}
}

// TestNextFull: where MaxPeers take part no one comes to it, till one has gone; all else may be done.
func TestNextFull(t *testing.T) {
	for _, c := range full(mostPeers) {
		for _, id := range []int{0, 9, 10, 18, 19, top - 1} {
			nexts(t, "P8.2: no room", c, c, api.ErrConf, add(id))
		}
		nexts(t, "P8.2: no number", c, c, api.ErrArg, add(top))
		if len(c.Learners) == 0 {
			continue
		}
		l := c.Learners[0]
		nexts(t, "P8.2: of a full one", c, conf(sorted(append(slices.Clone(c.Voters), l)), c.Learners[1:]), api.OK, promote(l))
		nexts(t, "P8.2: of a full one", c, conf(c.Voters, c.Learners[1:]), api.OK, remove(l))
		nexts(t, "P8.2: in its place", c, conf(c.Voters, append(slices.Clone(c.Learners[1:]), 40)), api.OK, remove(l), add(40))
		nexts(t, "P8.2: and no more", c, c, api.ErrConf, remove(l), add(40), add(41))
		nexts(t, "P8.2: ahead of it", c, c, api.ErrConf, add(40), remove(l))
	}
	for _, c := range full(mostPeers - 1) {
		nexts(t, "P8.2: room for one", c, conf(c.Voters, append(slices.Clone(c.Learners), 40)), api.OK, add(40))
		nexts(t, "P8.2: room for one", c, c, api.ErrConf, add(40), add(41))
	}
}

func sorted(ns []int) []int {
	slices.Sort(ns)
	return ns
}

// TestNextLast: the only voter stays, learners or not; another may come to vote, and then it may go.
func TestNextLast(t *testing.T) {
	for _, id := range []int{0, 1, 5, top - 1} {
		nexts(t, "P8.2: the only one", conf(ids(id), nil), api.Conf{}, api.ErrLast, remove(id))
		for _, l := range [][]int{{3}, {2, 4}, {4, 300}, row(20, 8)} {
			c := conf(ids(id), l)
			nexts(t, "P8.2: the only voter", c, c, api.ErrLast, remove(id))
			nexts(t, "P8.2: a learner of it", c, conf(ids(id), l[1:]), api.OK, remove(l[0]))
			nexts(t, "P8.2: another voter first", c, conf(ids(l[0]), l[1:]), api.OK, promote(l[0]), remove(id))
			nexts(t, "P8.2: now it is the only one", c, c, api.ErrLast, promote(l[0]), remove(id), remove(l[0]))
			nexts(t, "P8.2: a stranger", c, c, api.ErrConf, remove(19))
		}
	}
	nexts(t, "P8.2: one of two", conf(ids(1, 2), nil), conf(ids(2), nil), api.OK, remove(1))
	nexts(t, "P8.2: both", conf(ids(1, 2), nil), api.Conf{}, api.ErrLast, remove(1), remove(2))
	nexts(t, "P8.2: one, twice", conf(ids(1, 2), nil), api.Conf{}, api.ErrConf, remove(1), remove(1))
}

// TestNextFirst: the error is that of the first change that has one, whatever stands behind it, and whatever went well ahead of it.
func TestNextFirst(t *testing.T) {
	c := conf(ids(1), ids(2))
	good := [][]api.Change{{}, {add(3)}, {add(3), promote(3), remove(2)}, {remove(2), add(2), promote(2), remove(2)}}
	bad := map[api.Errno][]api.Change{
		api.ErrArg:  {{Do: 0, ID: 1}, {Do: 4, ID: 2}, add(-1), promote(top), remove(-1 << 63), {Do: 9, ID: -9}, {Do: 0, ID: 50}},
		api.ErrConf: {add(1), promote(1), promote(50), remove(50)},
	}
	for e, firsts := range bad {
		for _, ahead := range good {
			for _, first := range firsts {
				nexts(t, "P8.2: behind what went well", c, c, e, append(slices.Clone(ahead), first)...)
				for _, seconds := range bad {
					for _, second := range seconds {
						nexts(t, "P8.2: the first error", c, c, e, append(slices.Clone(ahead), first, second)...)
					}
				}
				nexts(t, "P8.2: ahead of the only voter", conf(ids(1), nil), c, e, first, remove(1))
				nexts(t, "P8.2: behind the only voter", conf(ids(1), nil), c, api.ErrLast, remove(1), first)
			}
		}
	}
}

// model is a configuration as what each number is: 'v' a voter, 'l' a learner.
type model map[int]byte

func modelOf(c api.Conf) model {
	m := model{}
	for _, id := range c.Voters {
		m[id] = 'v'
	}
	for _, id := range c.Learners {
		m[id] = 'l'
	}
	return m
}

// all are those of a kind, rising.
func (m model) all(kind byte) []int {
	var ns []int
	for id, k := range m {
		if k == kind {
			ns = append(ns, id)
		}
	}
	return sorted(ns)
}

func (m model) conf() api.Conf { return conf(m.all('v'), m.all('l')) }

// next does a change, slow and plain.
func (m model) next(ch api.Change) api.Errno {
	if ch.Do < 1 || ch.Do > 3 || !may(ch.ID) {
		return api.ErrArg
	}
	is := m[ch.ID]
	switch {
	case ch.Do == 1 && is == 0 && len(m) < mostPeers:
		m[ch.ID] = 'l'
	case ch.Do == 2 && is == 'l':
		m[ch.ID] = 'v'
	case ch.Do == 3 && is == 'v' && len(m.all('v')) == 1:
		return api.ErrLast
	case ch.Do == 3 && is != 0:
		delete(m, ch.ID)
	default:
		return api.ErrConf
	}
	return api.OK
}

// TestNextSmall: every change of every small configuration.
func TestNextSmall(t *testing.T) {
	for _, c := range small(smallIDs()) {
		for do := range 5 {
			for _, id := range append(smallIDs(), -1, 3, 8, top) {
				m := modelOf(c)
				e := m.next(api.Change{Do: do, ID: id})
				nexts(t, "P8.2", c, m.conf(), e, api.Change{Do: do, ID: id})
			}
		}
	}
}

// TestNextModel: long rows of changes make what the model says, in one call and in one each.
func TestNextModel(t *testing.T) {
	errs := map[api.Errno]int{}
	for seed := range int64(3000) {
		r := rand.New(rand.NewSource(seed))
		numbers := 2 + r.Intn(13)
		first := conf(ids(0), nil)
		m, c := modelOf(first), first
		var went []api.Change
		for range 60 {
			ch := api.Change{Do: 1 + r.Intn(3), ID: r.Intn(numbers)}
			if r.Intn(50) == 0 {
				ch = api.Change{Do: r.Intn(6) - 1, ID: r.Intn(numbers+2) - 1}
			}
			e := m.next(ch)
			errs[e]++
			nexts(t, "P8.2", c, m.conf(), e, ch)
			nexts(t, "P8.2", first, m.conf(), e, append(slices.Clone(went), ch)...)
			if e == api.OK {
				c, went = m.conf(), append(went, ch)
			}
			if !members.Right(c) {
				t.Fatalf("P8.2: %v isn't right", c)
			}
		}
	}
	for _, e := range []api.Errno{api.OK, api.ErrArg, api.ErrConf, api.ErrLast} {
		if errs[e] < 500 {
			t.Errorf("the rows come to %d only %d times", e, errs[e])
		}
	}
}
