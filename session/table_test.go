package session_test

import (
	"fmt"
	"testing"

	"echelon/api"
	"echelon/session"
)

// TestNew: a new table is empty.
func TestNew(t *testing.T) {
	s := session.New()
	holds(t, "a new one", s)
	none(t, s, numbers()...)
	s.Drop(numbers()...)
	holds(t, "a new one", s)
}

// TestLast: of each client its own, of others none, whatever their numbers.
func TestLast(t *testing.T) {
	s := session.New()
	clients := []int{top - 1, 300, 0, 5, 1 << 32}
	for i, client := range clients {
		once(t, s, client, i+1, fmt.Sprint(client), fmt.Sprint(client), api.OK, 1)
		if s.Len() != i+1 {
			t.Errorf("P13.2: Len: %d, not %d", s.Len(), i+1)
		}
		for k, other := range clients {
			if k <= i {
				last(t, s, other, k+1, fmt.Sprint(other))
			} else {
				none(t, s, other)
			}
		}
	}
	for _, client := range append(numbers(), 4, 6, 301) {
		if client != 0 && client != top-1 {
			none(t, s, client)
		}
	}
	// A client that comes again is none more.
	once(t, s, 5, 40, "again", "again", api.OK, 1)
	if s.Len() != len(clients) {
		t.Errorf("P13.2: Len: %d", s.Len())
	}
	last(t, s, 5, 40, "again")
}

// TestDrop: clients that are dropped have no last any more; the others keep theirs.
func TestDrop(t *testing.T) {
	a, b, c := row(1, 3, "a"), row(2, 4, ""), row(3, 1, "c")
	for i, x := range []struct {
		drops [][]int
		left  []string
	}{
		{[][]int{{}}, []string{a, b, c}},
		{[][]int{nil, {}}, []string{a, b, c}},
		{[][]int{{2}}, []string{a, c}},
		{[][]int{{2, 2}}, []string{a, c}},
		{[][]int{{2}, {2}}, []string{a, c}},
		{[][]int{{3, 1}}, []string{b}},
		{[][]int{{1}, {}, {3}}, []string{b}},
		{[][]int{{1, 2, 3}}, nil},
		{[][]int{{3, 2, 1, 2, 3}, {1}}, nil},
		{[][]int{{0, 4, top - 1}}, []string{a, b, c}},
		{[][]int{numbers()}, []string{c}},
		{[][]int{{-1, 3, 7, 3}}, []string{a, b}},
	} {
		s := parsed(t, rows(a, b, c))
		for _, clients := range x.drops {
			s.Drop(clients...)
		}
		holds(t, fmt.Sprint(i, x.drops), s, x.left...)
		for client, seq := range []int{0, 3, 4, 1} {
			n, _ := s.Last(client)
			if dropped := n == 0; !dropped && n != seq {
				t.Errorf("P13.2: %d: Last(%d): %d", i, client, n)
			}
		}
	}
}

// TestDropComesAgain: who was dropped begins anew, by whatever number, also one that was done ahead of it.
func TestDropComesAgain(t *testing.T) {
	for _, seq := range []int{1, 4, 5, 6, top - 1} {
		s := session.New()
		once(t, s, 9, 5, "was", "was", api.OK, 1)
		once(t, s, 8, 5, "other", "other", api.OK, 1)
		s.Drop(9)
		none(t, s, 9)
		once(t, s, 9, seq, "anew", "anew", api.OK, 1)
		once(t, s, 9, seq, "twice", "anew", api.OK, 0)
		last(t, s, 9, seq, "anew")
		once(t, s, 8, 5, "twice", "other", api.OK, 0)
		once(t, s, 8, 4, "elder", "", api.ErrSeq, 0)
	}
}
