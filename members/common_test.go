package members_test

import (
	"slices"
	"testing"

	"echelon/api"
	"echelon/members"
)

// majorities are all lists of a configuration's voters that are a majority of it.
func majorities(c api.Conf) [][]int {
	var all [][]int
	for bits := range 1 << len(c.Voters) {
		if some := among(c.Voters, bits); members.Majority(c, some...) {
			all = append(all, some)
		}
	}
	return all
}

// meet holds each majority of one configuration to have a server in common with each of another.
func meet(t *testing.T, what string, c, d api.Conf, ofC, ofD [][]int) {
	t.Helper()
	for _, a := range ofC {
		for _, b := range ofD {
			if !slices.ContainsFunc(a, func(id int) bool { return slices.Contains(b, id) }) {
				t.Fatalf("%s: %v is a majority of %v, %v of %v", what, a, c, b, d)
			}
		}
	}
}

// TestCommon: majorities of one configuration, and of it and of what one change makes of it, have a server in common; and all lists of more than half of its voters are majorities of it.
func TestCommon(t *testing.T) {
	of := ids(0, 1, 2, 4, top-1)
	for _, c := range small(of) {
		ofC := majorities(c)
		meet(t, "P8.4", c, c, ofC, ofC)
		for bits := range 1 << len(c.Voters) {
			if some := among(c.Voters, bits); 2*len(some) > len(c.Voters) && !slices.ContainsFunc(ofC, func(m []int) bool { return slices.Equal(m, some) }) {
				t.Fatalf("P8.4: %v is no majority of %v", some, c)
			}
		}
		for do := range 5 {
			for _, id := range append(slices.Clone(of), -1, 3, 9, top) {
				if d, e := members.Next(c, api.Change{Do: do, ID: id}); e == api.OK {
					meet(t, "P8.4", c, d, ofC, majorities(d))
				}
			}
		}
	}
}

// TestCommonFull: so have those of the greatest configurations.
func TestCommonFull(t *testing.T) {
	for _, c := range append(full(mostPeers), full(mostPeers-1)...) {
		ofC := majorities(c)
		for _, ch := range []api.Change{add(40), promote(10), promote(18), remove(10), remove(13), remove(17)} {
			if d, e := members.Next(c, ch); e == api.OK {
				meet(t, "P8.4", c, d, ofC, majorities(d))
			}
		}
	}
}

// roomy is a configuration whose lists stand side by side in one memory, with spare room behind each.
func roomy(voters, learners []int) (api.Conf, []int) {
	all := make([]int, 0, 40)
	all = append(all, voters...)
	all = append(all, -7, -7, -7)
	at := len(all)
	all = append(all, learners...)
	all = append(all, -7, -7, -7)
	return conf(all[:len(voters)], all[at:at+len(learners)]), all
}

// shapes are lists of voters and learners, right and wrong, of which the calls could want to turn or lengthen something.
func shapes() [][2][]int {
	return [][2][]int{
		{{1, 2, 3}, {5}}, {{1}, nil}, {{4}, {1, 9}}, {{2, 6}, {0, 4, 8}}, {row(10, 5), row(20, 4)}, {row(0, 9), nil},
		{{3, 1, 2}, {9, 8}}, {{2, 2}, {2}}, {nil, {5, 4}}, {nil, nil}, {row(0, 8), {30, 20}},
	}
}

// TestHandedIn: no call changes what it is handed, nor its spare room, whether it has an error or not.
func TestHandedIn(t *testing.T) {
	for _, s := range shapes() {
		c, all := roomy(s[0], s[1])
		asked := ids(9, 3, 1, 3, 0, -7, -7)
		changes := []api.Change{add(7), promote(7), remove(7), promote(5), remove(2), add(0), {Do: 9, ID: 9}}
		was, wasAsked, wasChanges := slices.Clone(all), slices.Clone(asked), slices.Clone(changes)
		cs := []api.Conf{c, c, c}
		told := tell(c)
		members.Right(cs...)
		members.Bytes(c)
		for n := range changes {
			members.Next(c, changes[:n]...)
			members.Next(c, changes[n:]...)
			members.Next(c, changes[n])
		}
		for _, id := range append(edges(), s[0]...) {
			members.Next(c, remove(id))
			members.Next(c, promote(id))
			members.Next(c, add(id))
			members.Votes(c, id)
			members.Has(c, id)
		}
		members.Majority(c, asked[:5]...)
		members.All(c)
		members.Quorum(c)
		if !slices.Equal(all, was) || !slices.Equal(asked, wasAsked) || !slices.Equal(changes, wasChanges) || told != tell(c) {
			t.Errorf("P8.4: of %v: %v is %v now, %v %v, %v %v", s, was, all, wasAsked, asked, wasChanges, changes)
		}
		b := append(members.Bytes(c), 7, 7, 7)
		wasB := slices.Clone(b)
		members.Parse(b[:len(b)-3])
		if !slices.Equal(b, wasB) {
			t.Errorf("P8.4: Parse changes %x to %x", wasB, b)
		}
	}
}

// spill overwrites a list and its spare room.
func spill(ns []int) {
	ns = ns[:cap(ns)]
	for i := range ns {
		ns[i] = -99
	}
}

// apart holds an answer's lists to share no memory with one another, nor with what was handed in.
func apart(t *testing.T, what string, make func() (got api.Conf, in []int)) {
	t.Helper()
	want, _ := make()
	got, in := make()
	spill(in)
	if !same(got, want) {
		t.Errorf("P8.4: %s hangs on what was handed in: %v, not %v", what, got, want)
	}
	spill(got.Voters)
	if !slices.Equal(got.Learners, want.Learners) {
		t.Errorf("P8.4: %s: its learners hang on its voters: %v, not %v", what, got.Learners, want.Learners)
	}
	got, in = make()
	was := slices.Clone(in)
	spill(got.Learners)
	if !slices.Equal(got.Voters, want.Voters) {
		t.Errorf("P8.4: %s: its voters hang on its learners: %v, not %v", what, got.Voters, want.Voters)
	}
	spill(got.Voters)
	if !slices.Equal(in, was) {
		t.Errorf("P8.4: what was handed in hangs on %s: %v, not %v", what, in, was)
	}
}

// TestNewMemory: what is answered is new memory.
func TestNewMemory(t *testing.T) {
	for _, s := range shapes() {
		for _, changes := range [][]api.Change{{}, {add(7)}, {promote(5)}, {promote(9)}, {remove(2)}, {remove(5)}, {remove(20)}, {add(7), promote(7)}, {add(7), remove(7)}, {remove(20), add(20), promote(20)}} {
			apart(t, "what Next answers", func() (api.Conf, []int) {
				c, all := roomy(s[0], s[1])
				got, _ := members.Next(c, changes...)
				return got, all
			})
		}
		apart(t, "what All answers", func() (api.Conf, []int) {
			c, all := roomy(s[0], s[1])
			return conf(members.All(c), nil), all
		})
		apart(t, "what Parse answers", func() (api.Conf, []int) {
			got, _ := members.Parse(members.Bytes(conf(s[0], s[1])))
			return got, nil
		})
		c := conf(s[0], s[1])
		b, again := members.Bytes(c), members.Bytes(c)
		got, _ := members.Parse(b)
		wantGot, _ := members.Parse(again)
		clear(b[:cap(b)])
		if string(again) != string(members.Bytes(c)) || !same(got, wantGot) {
			t.Errorf("P8.4: bytes of %v are shared", c)
		}
	}
}

// TestAgain: answers of two calls share nothing, and no call tells what was asked ahead of it.
func TestAgain(t *testing.T) {
	for _, c := range []api.Conf{conf(ids(1, 2, 3), ids(5)), conf(ids(4), nil), conf(row(0, 9), nil)} {
		was := tell(c)
		a, _ := members.Next(c)
		b, _ := members.Next(c)
		x, y := members.All(c), members.All(c)
		spill(a.Voters)
		spill(a.Learners)
		spill(x)
		if !same(b, c) || !slices.Equal(y, sorted(slices.Concat(c.Voters, c.Learners))) || tell(c) != was {
			t.Errorf("P8.4: of %v: %v, %v", c, b, y)
		}
	}
}
