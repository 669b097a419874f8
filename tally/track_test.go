package tally_test

import (
	"fmt"
	"math"
	"slices"
	"testing"

	"echelon/api"
	"echelon/tally"
)

// acks holds what Ack answers, and how far the peer is then.
func acks(t *testing.T, what string, k *tally.Track, id, index int, want bool, match, next int) {
	t.Helper()
	if got := k.Ack(id, index); got != want {
		t.Fatalf("P9.3: %s: Ack(%d, %d) is %t", what, id, index, got)
	}
	at(t, what, k, id, match, next)
}

// backs holds what Back answers, and how far the peer is then.
func backs(t *testing.T, what string, k *tally.Track, id, index, hint int, want bool, match, next int) {
	t.Helper()
	if got := k.Back(id, index, hint); got != want {
		t.Fatalf("P9.3: %s: Back(%d, %d, %d) is %t", what, id, index, hint, got)
	}
	at(t, what, k, id, match, next)
}

// TestTrackExample: the chapter's example.
func TestTrackExample(t *testing.T) {
	k := tally.NewTrack(7, 2)
	at(t, "new", k, 2, 0, 8)
	backs(t, "Back", k, 2, 7, 4, true, 0, 5)
	acks(t, "Ack", k, 2, 6, true, 6, 7)
}

// TestNewTrack: each peer has nothing, and is sent what is behind the last; of a last below 0, as of 0.
func TestNewTrack(t *testing.T) {
	for _, last := range []int{math.MinInt, math.MinInt + 1, -7, -1, 0, 1, 2, 7, 1 << 39, math.MaxInt - 1} {
		k := tally.NewTrack(last, 2, 5, 2, 0, 5)
		for _, id := range ids(0, 2, 5) {
			at(t, fmt.Sprint("a last of ", last), k, id, 0, max(last, 0)+1)
		}
		for _, id := range ids(-1, 1, 3, 4, 6, top, math.MinInt, math.MaxInt) {
			at(t, "one that isn't tracked", k, id, 0, 0)
		}
		has(t, fmt.Sprint("a last of ", last), k, 0, 0, 2, 0, 5, 0)
	}
	for _, last := range edges() {
		k := tally.NewTrack(last)
		has(t, "none", k)
		at(t, "none", k, 0, 0, 0)
		if k.Ack(0, 1) || k.Back(0, max(last, 1), 0) {
			t.Error("P9.3: none: Ack or Back of one that isn't tracked")
		}
	}
	odd := tally.NewTrack(3, math.MaxInt, -1, math.MinInt, top)
	has(t, "numbers of all kinds", odd, math.MinInt, 0, -1, 0, top, 0, math.MaxInt, 0)
	acks(t, "numbers of all kinds", odd, math.MinInt, 9, true, 9, 10)
	at(t, "numbers of all kinds", odd, math.MaxInt, 0, 4)
}

// TestAll: the matches by rising numbers, in whatever order they came.
func TestAll(t *testing.T) {
	k := tally.NewTrack(20, 9, 1, 7, 300, 0, 12)
	for i, id := range ids(300, 9, 12, 0, 7) {
		acks(t, "Ack", k, id, 5-i, true, 5-i, 21)
	}
	has(t, "All", k, 0, 2, 1, 0, 7, 1, 9, 4, 12, 3, 300, 5)
	k.Only(0)
	has(t, "of none", k)
}

// TestOnly: who isn't named is gone, who is and isn't tracked comes, the others stay as they are.
func TestOnly(t *testing.T) {
	begin := func() *tally.Track {
		k := tally.NewTrack(7, 1, 2, 3)
		k.Ack(1, 9)
		k.Ack(2, 4)
		k.Back(3, 7, 2)
		return k
	}
	for _, x := range []struct {
		last int
		ids  []int
		all  []int
		next map[int]int
	}{
		{5, nil, nil, map[int]int{1: 0, 2: 0, 3: 0}},
		{5, ids(), nil, map[int]int{1: 0, 2: 0, 3: 0}},
		{5, ids(1, 2, 3), ids(1, 9, 2, 4, 3, 0), map[int]int{1: 10, 2: 8, 3: 3}},
		{5, ids(3, 3, 1, 2, 1), ids(1, 9, 2, 4, 3, 0), map[int]int{1: 10, 2: 8, 3: 3}},
		{20, ids(3), ids(3, 0), map[int]int{1: 0, 2: 0, 3: 3}},
		{20, ids(2, 4), ids(2, 4, 4, 0), map[int]int{1: 0, 2: 8, 3: 0, 4: 21}},
		{0, ids(4, 0, 1, 4), ids(0, 0, 1, 9, 4, 0), map[int]int{0: 1, 1: 10, 2: 0, 3: 0, 4: 1}},
		{-1, ids(5, 6), ids(5, 0, 6, 0), map[int]int{1: 0, 2: 0, 3: 0, 5: 1, 6: 1}},
		{math.MinInt, ids(5, 1), ids(1, 9, 5, 0), map[int]int{1: 10, 5: 1}},
		{math.MaxInt - 1, ids(5, 2), ids(2, 4, 5, 0), map[int]int{2: 8, 5: math.MaxInt}},
	} {
		k := begin()
		for range 2 {
			k.Only(x.last, x.ids...)
			has(t, fmt.Sprint("Only", x.last, x.ids), k, x.all...)
			for id, next := range x.next {
				at(t, fmt.Sprint("Only", x.last, x.ids), k, id, k.Match(id), next)
			}
		}
	}
}

// TestOnlyAgain: one that was gone comes as a new one, with nothing of what it had.
func TestOnlyAgain(t *testing.T) {
	k := tally.NewTrack(7, 1, 2)
	acks(t, "Ack", k, 1, 5, true, 5, 8)
	k.Only(9, 2)
	acks(t, "one that is gone", k, 1, 6, false, 0, 0)
	backs(t, "one that is gone", k, 1, 7, 0, false, 0, 0)
	k.Only(3, 1, 2)
	at(t, "come again", k, 1, 0, 4)
	at(t, "it stayed", k, 2, 0, 8)
	acks(t, "come again", k, 1, 2, true, 2, 4)
}

// TestAck: a match rises, and never falls; the next is above it, and stays where it is already.
func TestAck(t *testing.T) {
	k := tally.NewTrack(7, 2, 3)
	acks(t, "what it has, nothing", k, 2, 0, false, 0, 8)
	acks(t, "less than nothing", k, 2, -1, false, 0, 8)
	acks(t, "the least int", k, 2, math.MinInt, false, 0, 8)
	acks(t, "more", k, 2, 1, true, 1, 8)
	acks(t, "the same", k, 2, 1, false, 1, 8)
	acks(t, "more", k, 2, 6, true, 6, 8)
	acks(t, "less", k, 2, 5, false, 6, 8)
	acks(t, "one below its next", k, 2, 7, true, 7, 8)
	acks(t, "its next", k, 2, 8, true, 8, 9)
	acks(t, "more than its next", k, 2, 20, true, 20, 21)
	acks(t, "less", k, 2, 19, false, 20, 21)
	acks(t, "nothing", k, 2, 0, false, 20, 21)
	acks(t, "not a peer", k, 4, 5, false, 0, 0)
	at(t, "the other one", k, 3, 0, 8)
	has(t, "Ack", k, 2, 20, 3, 0)
	acks(t, "one below the greatest int", k, 2, math.MaxInt-1, true, math.MaxInt-1, math.MaxInt)
	if !k.Ack(2, math.MaxInt) || k.Ack(2, math.MaxInt) || k.Ack(2, math.MaxInt-1) || k.Match(2) != math.MaxInt {
		t.Errorf("P9.3: Ack of the greatest int: %d", k.Match(2))
	}
}

// TestBack: only of one below the next and above the match; the next falls, to one above the hint at the most, and never to the match.
func TestBack(t *testing.T) {
	begin := func() *tally.Track {
		k := tally.NewTrack(9, 2, 3)
		k.Ack(2, 4)
		return k
	}
	for _, hint := range []int{math.MinInt, math.MinInt + 1, -1, 0, 1, 4, 5, 8, 9, 10, 11, 50, math.MaxInt - 1, math.MaxInt} {
		for _, index := range []int{math.MinInt, math.MinInt + 1, -1, 0, 1, 3, 4, 5, 6, 7, 8, 10, 11, 12, math.MaxInt - 1, math.MaxInt} {
			backs(t, "not one below its next", begin(), 2, index, hint, false, 4, 10)
			backs(t, "not one below its next", begin(), 3, index, hint, false, 0, 10)
			backs(t, "not a peer", begin(), 4, index, hint, false, 0, 0)
		}
		backs(t, "not a peer", begin(), 4, 9, hint, false, 0, 0)
		sent := begin()
		acks(t, "all", sent, 2, 9, true, 9, 10)
		backs(t, "its match", sent, 2, 9, hint, false, 9, 10)
		backs(t, "below its match", sent, 2, 8, hint, false, 9, 10)
		fresh := tally.NewTrack(0, 2)
		for _, index := range []int{math.MinInt, -1, 0, 1, math.MaxInt} {
			backs(t, "a next of 1", fresh, 2, index, hint, false, 0, 1)
		}
	}
	for _, x := range []struct{ hint, next, other int }{
		{math.MinInt, 5, 1}, {math.MinInt + 1, 5, 1}, {-2, 5, 1}, {-1, 5, 1}, {0, 5, 1}, {1, 5, 2}, {2, 5, 3}, {3, 5, 4}, {4, 5, 5}, {5, 6, 6}, {6, 7, 7}, {7, 8, 8}, {8, 9, 9}, {9, 9, 9}, {10, 9, 9}, {11, 9, 9}, {1 << 39, 9, 9}, {math.MaxInt - 1, 9, 9}, {math.MaxInt, 9, 9},
	} {
		k := begin()
		backs(t, "above a match", k, 2, 9, x.hint, true, 4, x.next)
		at(t, "the other one", k, 3, 0, 10)
		backs(t, "twice", k, 2, 9, x.hint, false, 4, x.next)
		backs(t, "above nothing", k, 3, 9, x.hint, true, 0, x.other)
		has(t, "Back", k, 2, 4, 3, 0)
	}
}

// TestBackDown: one step at a time it comes down to one above the match, and no further.
func TestBackDown(t *testing.T) {
	for match := range 6 {
		k := tally.NewTrack(9, 2)
		k.Ack(2, match)
		for next := 10; next > match+1; next-- {
			at(t, "on its way", k, 2, match, next)
			backs(t, "down", k, 2, next-1, 99, true, match, next-1)
		}
		backs(t, "no further", k, 2, match, 0, false, match, match+1)
		backs(t, "no further", k, 2, match-1, 0, false, match, match+1)
	}
}

// TestEnds: at the greatest int a next has no index above it; matches and what Back makes of them are as told.
func TestEnds(t *testing.T) {
	for _, hint := range edges() {
		k := tally.NewTrack(math.MaxInt, 2)
		k.Only(math.MaxInt, 2, 3)
		has(t, "the greatest last", k, 2, 0, 3, 0)
		backs(t, "one below the greatest", tally.NewTrack(math.MaxInt-1, 2), 2, math.MaxInt-1, hint, true, 0, min(max(hint, 0), math.MaxInt-2)+1)
		backs(t, "the greatest", k, 2, math.MaxInt, hint, true, 0, min(max(hint, 0), math.MaxInt-1)+1)
		acks(t, "the greatest", k, 3, 5, true, 5, k.Next(3))
		backs(t, "the greatest, above a match", k, 3, math.MaxInt, hint, true, 5, min(max(hint, 5), math.MaxInt-1)+1)
	}
}

// TestTrackHandedIn: what becomes of numbers behind a track doesn't matter to it; nor does it change them.
func TestTrackHandedIn(t *testing.T) {
	tell := func(k *tally.Track) func() int {
		return func() int {
			sum := 0
			for _, m := range k.All() {
				sum = 100*sum + 10*m.ID + k.Next(m.ID) + m.Index
			}
			return sum
		}
	}
	stays(t, "P9.3: NewTrack", func(_ api.Conf, some []int) func() int {
		return tell(tally.NewTrack(4, some...))
	})
	stays(t, "P9.3: Only", func(_ api.Conf, some []int) func() int {
		k := tally.NewTrack(4, 1, 2)
		k.Only(2, some...)
		return tell(k)
	})
}

// TestNewMemory: what All answers is new each time, its spare room included, and tells nothing of what becomes of the track, or of it.
func TestNewMemory(t *testing.T) {
	k := tally.NewTrack(7, 1, 2, 3)
	k.Ack(2, 5)
	a, b := k.All(), k.All()
	a = a[:cap(a)]
	for i := range a {
		a[i] = api.Match{ID: -9, Index: -9}
	}
	if !slices.Equal(b, matches(1, 0, 2, 5, 3, 0)) {
		t.Errorf("P9.3: All: %v", b)
	}
	has(t, "All", k, 1, 0, 2, 5, 3, 0)
	k.Ack(3, 6)
	k.Only(0, 3)
	if !slices.Equal(b, matches(1, 0, 2, 5, 3, 0)) {
		t.Errorf("P9.3: All, and then Ack and Only: %v", b)
	}
	has(t, "All", k, 3, 6)
}

// TestTracksApart: tracks of the same peers don't hear one another.
func TestTracksApart(t *testing.T) {
	a, b := tally.NewTrack(7, 1, 2), tally.NewTrack(7, 1, 2)
	a.Ack(1, 5)
	b.Back(2, 7, 3)
	a.Only(3, 1)
	has(t, "one track", a, 1, 5)
	has(t, "another one", b, 1, 0, 2, 0)
	at(t, "another one", b, 2, 0, 4)
}
