package tally_test

import (
	"fmt"
	"math/rand"
	"slices"
	"testing"

	"echelon/api"
	"echelon/tally"
)

// far is how far a peer of the model is.
type far struct{ id, match, next int }

// model is a track as a list of its peers.
type model []far

// find is where a peer stands, or -1.
func (m model) find(id int) int {
	return slices.IndexFunc(m, func(f far) bool { return f.id == id })
}

// only is what is left, and what comes.
func (m model) only(last int, ids []int) model {
	var now model
	for _, id := range ids {
		if now.find(id) >= 0 {
			continue
		}
		if i := m.find(id); i >= 0 {
			now = append(now, m[i])
		} else {
			now = append(now, far{id, 0, max(last, 0) + 1})
		}
	}
	slices.SortFunc(now, func(a, b far) int { return a.id - b.id })
	return now
}

func (m model) ack(id, index int) bool {
	i := m.find(id)
	if i < 0 || index <= m[i].match {
		return false
	}
	m[i].match = index
	if m[i].next <= index {
		m[i].next = index + 1
	}
	return true
}

func (m model) back(id, index, hint int) bool {
	i := m.find(id)
	if i < 0 || index != m[i].next-1 || index <= m[i].match {
		return false
	}
	was := m[i].next
	m[i].next = max(min(index, max(hint, 0)+1), m[i].match+1)
	return m[i].next != was
}

// same holds a track against the model.
func (m model) same(t *testing.T, what string, k *tally.Track) {
	t.Helper()
	var all []api.Match
	for _, f := range m {
		at(t, what, k, f.id, f.match, f.next)
		all = append(all, api.Match{ID: f.id, Index: f.match})
		if f.next <= f.match {
			t.Fatalf("P9.3: %s: the next of %d isn't above its match: %v", what, f.id, f)
		}
	}
	if got := k.All(); !slices.Equal(got, all) {
		t.Fatalf("P9.3: %s: %v, not %v", what, got, all)
	}
}

// TestTrackModel: long rows of calls do what the model says.
func TestTrackModel(t *testing.T) {
	done := map[string]int{}
	for seed := range int64(3000) {
		r := rand.New(rand.NewSource(seed))
		last, ns := r.Intn(20)-2, drawn(r, 8, 7)
		k, m := tally.NewTrack(last, ns...), model(nil).only(last, ns)
		m.same(t, fmt.Sprint("NewTrack ", last, ns), k)
		for range 60 {
			id, what := r.Intn(9)-1, ""
			switch r.Intn(12) {
			case 0:
				last, ns := r.Intn(20)-2, drawn(r, 14, 7)
				k.Only(last, ns...)
				m = m.only(last, ns)
				what = fmt.Sprint("Only ", last, ns)
			case 1, 2, 3:
				index := r.Intn(24) - 2
				what = fmt.Sprint("Ack ", id, index)
				got, want := k.Ack(id, index), m.ack(id, index)
				if got != want {
					t.Fatalf("P9.3: %s: %t", what, got)
				}
				done[fmt.Sprint("Ack ", want)]++
			default:
				index, hint := r.Intn(24)-2, r.Intn(28)-4
				if i := m.find(id); i >= 0 && r.Intn(4) > 0 {
					index = m[i].next - 1
				}
				what = fmt.Sprint("Back ", id, index, hint)
				got, want := k.Back(id, index, hint), m.back(id, index, hint)
				if got != want {
					t.Fatalf("P9.3: %s: %t", what, got)
				}
				done[fmt.Sprint("Back ", want)]++
			}
			m.same(t, fmt.Sprint(seed, ": ", what), k)
			for id := range 10 {
				if m.find(id) < 0 {
					at(t, what, k, id, 0, 0)
				}
			}
		}
	}
	for _, what := range []string{"Ack true", "Ack false", "Back true", "Back false"} {
		if done[what] < 5000 {
			t.Errorf("the rows come to %s only %d times", what, done[what])
		}
	}
}
