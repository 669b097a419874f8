package tally_test

import (
	"fmt"
	"math"
	"math/rand"
	"slices"
	"testing"

	"echelon/api"
	"echelon/tally"
)

// word is what some say.
type word struct {
	yes bool
	ids []int
}

func yes(ns ...int) word { return word{true, ns} }
func no(ns ...int) word  { return word{false, ns} }

// TestPoll: the examples and the edges: how many voters there are, who counts, and which of several words.
func TestPoll(t *testing.T) {
	none, one, two, three, four := api.Conf{}, conf(ids(4), ids(1)), conf(ids(1, 2), nil), conf(ids(1, 2, 3), ids(5, 6)), conf(ids(1, 2, 3, 4), ids(5))
	for _, x := range []struct {
		c     api.Conf
		words []word
		want  int
	}{
		{three, nil, api.Open}, {three, []word{yes(1)}, api.Open}, {three, []word{yes(1), yes(1)}, api.Open}, {three, []word{yes(1), yes(1), yes(3)}, api.Won}, // the chapter's
		{three, []word{yes(), no()}, api.Open}, {three, []word{yes(1, 1, 1)}, api.Open}, {three, []word{yes(1, 2)}, api.Won}, {three, []word{no(1, 2)}, api.Lost}, {three, []word{no(1, 1, 1)}, api.Open},
		{three, []word{yes(1), no(1, 1)}, api.Open}, {three, []word{yes(1), no(1), no(2)}, api.Open}, {three, []word{yes(1), no(1), no(2), yes(3)}, api.Won}, {three, []word{yes(1), no(1), no(2), no(3)}, api.Lost},
		{three, []word{no(1), yes(1), yes(2)}, api.Open}, {three, []word{no(1), yes(1), yes(2, 3)}, api.Won}, {three, []word{no(3), yes(3), no(2), yes(2), yes(1)}, api.Lost},
		{three, []word{yes(5, 6, 7)}, api.Open}, {three, []word{no(5, 6, 7)}, api.Open}, {three, []word{yes(1, 5)}, api.Open}, {three, []word{no(1, 6)}, api.Open}, {three, []word{yes(5, 1, 6, 2)}, api.Won}, {three, []word{no(9, -1, 0, 1, 4), no(2)}, api.Lost},
		{three, []word{yes(math.MinInt, math.MaxInt, -1, top)}, api.Open}, {three, []word{yes(1, 2, 3)}, api.Won}, {three, []word{no(1, 2, 3)}, api.Lost}, {three, []word{yes(1, 2), no(3)}, api.Won}, {three, []word{no(3, 1), yes(2)}, api.Lost}, {three, []word{yes(3, 2), no(1, 2, 3)}, api.Won}, {three, []word{no(3, 2), yes(1, 2, 3)}, api.Lost},
		{none, nil, api.Lost}, {none, []word{yes(0, 1)}, api.Lost}, {conf(nil, ids(1)), []word{yes(1)}, api.Lost}, {conf(ids(), ids()), nil, api.Lost},
		{one, nil, api.Open}, {one, []word{yes(4)}, api.Won}, {one, []word{no(4)}, api.Lost}, {one, []word{yes(1)}, api.Open}, {one, []word{no(1, 0)}, api.Open}, {one, []word{no(4), yes(4)}, api.Lost}, {one, []word{yes(4), no(4)}, api.Won}, {conf(ids(0), nil), []word{yes(0)}, api.Won},
		{two, []word{yes(1)}, api.Open}, {two, []word{no(1)}, api.Lost}, {two, []word{yes(1), no(2)}, api.Lost}, {two, []word{yes(2, 1)}, api.Won}, {two, []word{no(2), yes(1)}, api.Lost},
		{four, []word{yes(1, 2)}, api.Open}, {four, []word{no(1)}, api.Open}, {four, []word{no(1, 2)}, api.Lost}, {four, []word{yes(1, 2), no(3, 4)}, api.Lost}, {four, []word{no(3, 4), yes(1, 2)}, api.Lost}, {four, []word{yes(1, 2), no(3)}, api.Open}, {four, []word{yes(1, 2), no(3), yes(4)}, api.Won}, {four, []word{yes(4, 3, 2)}, api.Won}, {four, []word{yes(1, 2, 3, 4)}, api.Won}, {four, []word{no(4, 3, 2, 1)}, api.Lost},
		{conf(row(0, 9), nil), []word{yes(row(0, 4)...)}, api.Open}, {conf(row(0, 9), nil), []word{yes(row(0, 5)...)}, api.Won}, {conf(row(0, 9), nil), []word{no(row(0, 4)...)}, api.Open}, {conf(row(0, 9), nil), []word{no(row(0, 5)...)}, api.Lost},
		{conf(row(0, 8), nil), []word{yes(row(0, 4)...)}, api.Open}, {conf(row(0, 8), nil), []word{yes(row(0, 5)...)}, api.Won}, {conf(row(0, 8), nil), []word{no(row(0, 3)...)}, api.Open}, {conf(row(0, 8), nil), []word{no(row(0, 4)...)}, api.Lost},
	} {
		says(t, x.c, x.words, x.want)
	}
}

// says holds a poll to stand so, once these words were said: in as few calls as may be, and in one for each server.
func says(t *testing.T, c api.Conf, words []word, want int) {
	t.Helper()
	few, many := tally.NewPoll(c), tally.NewPoll(c)
	if few == nil || many == nil {
		t.Fatalf("P9.2: NewPoll(%v) is none", c)
	}
	for _, w := range words {
		few.Say(w.yes, w.ids...)
		for _, id := range w.ids {
			many.Say(w.yes, id)
		}
	}
	stands(t, fmt.Sprint(c, words), few, want)
	stands(t, fmt.Sprint(c, words, " one by one"), many, want)
}

// TestPollOdd: of what isn't right each voter counts as it stands, also in what a majority is.
func TestPollOdd(t *testing.T) {
	twice, pair := conf(ids(1, 1, 2), nil), conf(ids(1, 1, 2, 3), nil)
	for _, x := range []struct {
		c     api.Conf
		words []word
		want  int
	}{
		{twice, nil, api.Open}, {twice, []word{yes(1)}, api.Won}, {twice, []word{no(1)}, api.Lost}, {twice, []word{yes(2)}, api.Open}, {twice, []word{no(2)}, api.Open}, {twice, []word{yes(2, 2, 2)}, api.Open}, {twice, []word{no(2, 2)}, api.Open}, {twice, []word{no(2), yes(1)}, api.Won}, {twice, []word{yes(1), no(1)}, api.Won}, {twice, []word{no(1), yes(1, 1)}, api.Lost},
		{pair, []word{yes(1)}, api.Open}, {pair, []word{yes(1, 1)}, api.Open}, {pair, []word{no(1)}, api.Lost}, {pair, []word{yes(1, 3)}, api.Won}, {pair, []word{yes(2, 3)}, api.Open}, {pair, []word{no(2)}, api.Open}, {pair, []word{no(2, 3)}, api.Lost},
		{conf(ids(2, 1, 2), nil), []word{yes(2)}, api.Won}, {conf(ids(1, 1), nil), []word{yes(1)}, api.Won}, {conf(ids(1, 1), nil), []word{no(1)}, api.Lost},
		{conf(ids(3, 2, 1), nil), []word{yes(1, 3)}, api.Won}, {conf(ids(3, 2, 1), nil), []word{yes(3), no(2)}, api.Open}, {conf(ids(3, 2, 1), nil), []word{no(1, 3)}, api.Lost},
		{conf(ids(1, 2), ids(1)), []word{yes(1)}, api.Open}, {conf(ids(1, 2, 3), ids(1, 2)), []word{yes(1, 2)}, api.Won}, {conf(ids(-1, top, 5), nil), []word{yes(-1, top)}, api.Won}, {conf(ids(-1), nil), []word{no(-1)}, api.Lost},
		{conf(row(0, 100), nil), []word{yes(row(0, 50)...)}, api.Open}, {conf(row(0, 100), nil), []word{yes(row(0, 51)...)}, api.Won}, {conf(row(0, 100), nil), []word{no(row(51, 49)...)}, api.Open}, {conf(row(0, 100), nil), []word{no(row(50, 50)...)}, api.Lost},
	} {
		says(t, x.c, x.words, x.want)
	}
}

// slowStands is how a poll stands by the first words of each: a list of all that was said is looked through for each voter.
func slowStands(c api.Conf, words []word) int {
	said := map[bool]int{}
	for _, v := range c.Voters {
		if i := slices.IndexFunc(words, func(w word) bool { return slices.Contains(w.ids, v) }); i >= 0 {
			said[words[i].yes]++
		}
	}
	switch silent := len(c.Voters) - said[true] - said[false]; {
	case 2*said[true] > len(c.Voters):
		return api.Won
	case 2*(said[true]+silent) <= len(c.Voters):
		return api.Lost
	}
	return api.Open
}

// TestPollSmall: each small configuration, of which each says yes, no, or nothing; and what each says then doesn't matter, if it said something already.
func TestPollSmall(t *testing.T) {
	of := ids(0, 1, 2, 4, 300)
	for _, c := range append(small(of), odd()...) {
		each(len(of), 3, func(what []int) {
			p := tally.NewPoll(c)
			var words []word
			for i, id := range of {
				if what[i] < 2 {
					words = append(words, word{what[i] == 1, ids(id)})
					p.Say(what[i] == 1, id)
				}
				stands(t, fmt.Sprint(c, words), p, slowStands(c, words))
			}
			want := p.Stands()
			for _, w := range words {
				p.Say(!w.yes, w.ids...)
				p.Say(w.yes, w.ids...)
				stands(t, fmt.Sprint(c, words, " and other words behind"), p, want)
			}
		})
	}
}

// TestPollModel: long rows of words, of whomever.
func TestPollModel(t *testing.T) {
	ends := map[int]int{}
	for seed := range int64(4000) {
		r := rand.New(rand.NewSource(seed))
		c := conf(drawn(r, 11, 12), drawn(r, 4, 12))
		p := tally.NewPoll(c)
		var words []word
		for range 12 {
			w := word{yes: r.Intn(2) == 0}
			for range r.Intn(4) {
				w.ids = append(w.ids, r.Intn(15)-1)
			}
			p.Say(w.yes, w.ids...)
			words = append(words, w)
			stands(t, fmt.Sprint(c, words), p, slowStands(c, words))
			ends[p.Stands()]++
		}
	}
	for _, stand := range []int{api.Open, api.Won, api.Lost} {
		if ends[stand] < 1000 {
			t.Errorf("the rows come to %d only %d times", stand, ends[stand])
		}
	}
}

// TestPollMany: it comes to an end of very many voters, too.
func TestPollMany(t *testing.T) {
	const many = 1 << 17
	p := tally.NewPoll(conf(row(0, many), row(0, many)))
	p.Say(true, row(many/2, many)...)
	stands(t, "half of very many", p, api.Open)
	p.Say(false, row(1, many)...)
	stands(t, "but one said no", p, api.Open)
	p.Say(true, row(0, many)...)
	stands(t, "and one more", p, api.Won)
}

// TestPollHandedIn: what becomes of a configuration, or of numbers, behind a poll doesn't matter to it; nor does it change them.
func TestPollHandedIn(t *testing.T) {
	stays(t, "P9.2: NewPoll", func(c api.Conf, some []int) func() int {
		p := tally.NewPoll(c)
		p.Say(true, some[:1]...)
		return func() int {
			p.Say(true, 2, 5)
			return p.Stands()
		}
	})
	stays(t, "P9.2: Say", func(c api.Conf, some []int) func() int {
		p := tally.NewPoll(c)
		p.Say(false, some...)
		return p.Stands
	})
	c := conf(ids(1, 2, 3), ids(5))
	p := tally.NewPoll(c)
	p.Say(true, 1)
	c.Voters[1], c.Voters[2], c.Learners[0] = 7, 8, 2
	p.Say(true, 7, 8)
	stands(t, "others took their places", p, api.Open)
	p.Say(true, 2)
	stands(t, "those it was made of", p, api.Won)
}

// TestPollsApart: polls of one configuration don't hear one another.
func TestPollsApart(t *testing.T) {
	c := conf(ids(1, 2, 3), nil)
	a, b := tally.NewPoll(c), tally.NewPoll(c)
	a.Say(true, 1, 2)
	b.Say(false, 2, 3)
	stands(t, "one poll", a, api.Won)
	stands(t, "another one", b, api.Lost)
	stands(t, "a new one", tally.NewPoll(c), api.Open)
}
