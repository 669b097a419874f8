package timer_test

import (
	"math"
	"slices"
	"testing"

	"echelon/timer"
)

// TestAlarmsNone: the zero Alarms has none, whichever call asks first.
func TestAlarmsNone(t *testing.T) {
	for _, call := range []func(a *timer.Alarms){
		func(a *timer.Alarms) {},
		func(a *timer.Alarms) { a.Set(5) },
		func(a *timer.Alarms) { a.Set(5, []int{}...) },
		func(a *timer.Alarms) { a.Clear() },
		func(a *timer.Alarms) { a.Clear(edges()...) },
		func(a *timer.Alarms) { a.At(0) },
		func(a *timer.Alarms) { a.Next() },
		func(a *timer.Alarms) { a.Len() },
		func(a *timer.Alarms) { due(t, "none", a, math.MaxInt) },
		func(a *timer.Alarms) { due(t, "none", a, 0) },
		func(a *timer.Alarms) { due(t, "none", a, math.MinInt) },
	} {
		var a timer.Alarms
		call(&a)
		none(t, "the zero Alarms", &a)
		a.Set(5, 2, 1)
		next(t, "set", &a, 5, 2)
		due(t, "set", &a, 5, 1, 2)
		call(&a)
		none(t, "all are gone", &a)
		a.Set(0, 0)
		at(t, "a time of 0", &a, 0, 0)
		next(t, "a time of 0", &a, 0, 1)
		a.Clear(0)
		none(t, "all are cleared", &a)
	}
}

// TestAlarmsExample: the chapter's.
func TestAlarmsExample(t *testing.T) {
	var a timer.Alarms
	a.Set(5, 2, 1)
	a.Set(3, 7)
	next(t, "the chapter's", &a, 3, 3)
	due(t, "the chapter's", &a, 4, 7)
	next(t, "the chapter's", &a, 5, 2)
	due(t, "the chapter's", &a, 5, 1, 2)
	none(t, "the chapter's", &a)
}

// TestAlarmsSet: a key that has a time gets another one, earlier, the same or later; the others keep theirs.
func TestAlarmsSet(t *testing.T) {
	for _, now := range []int{math.MinInt, -1, 0, 1, 4, 5, 6, 7, 8, 9, 10, 20, math.MaxInt} {
		for _, key := range []int{1, 2, 3, 4} {
			var a timer.Alarms
			for k := 1; k <= 4; k++ {
				a.Set(3+2*k, k) // 5, 7, 9, 11
			}
			a.Set(now, key)
			least := math.MaxInt
			for k := 1; k <= 4; k++ {
				want := 3 + 2*k
				if k == key {
					want = now
				}
				at(t, "set again", &a, k, want)
				least = min(least, want)
			}
			next(t, "set again", &a, least, 4)
			a.Clear(key)
			without(t, "cleared", &a, key)
			rest := slices.DeleteFunc([]int{1, 2, 3, 4}, func(k int) bool { return k == key })
			due(t, "the others", &a, 11, rest...)
		}
	}
}

// TestAlarmsTwice: a key that stands twice in one call is one key.
func TestAlarmsTwice(t *testing.T) {
	var a timer.Alarms
	a.Set(5, 1, 1, 2, 1)
	next(t, "twice", &a, 5, 2)
	a.Set(6, 2, 2)
	at(t, "twice", &a, 2, 6)
	next(t, "twice", &a, 5, 2)
	a.Clear(1, 1, 1)
	next(t, "cleared twice", &a, 6, 1)
	due(t, "twice", &a, 9, 2)
	none(t, "twice", &a)
}

// TestAlarmsClear: those that are named have none, the first, one in the middle, the last, several, all; of one that has none nothing is to be done.
func TestAlarmsClear(t *testing.T) {
	keys := []int{1, 2, 3, 4, 5, 6, 7}
	for mask := range 1 << len(keys) {
		for _, order := range [][]int{keys, {7, 6, 5, 4, 3, 2, 1}, {4, 2, 6, 1, 3, 5, 7}} {
			var a timer.Alarms
			for _, k := range order {
				a.Set(10*k, k)
			}
			gone, rest := []int{8, 0, -1}, []int(nil)
			for i, k := range keys {
				if mask>>i&1 == 1 {
					gone = append(gone, k)
				} else {
					rest = append(rest, k)
				}
			}
			a.Clear(gone...)
			a.Clear(gone...)
			without(t, "cleared", &a, gone...)
			for _, k := range rest {
				at(t, "not cleared", &a, k, 10*k)
			}
			if len(rest) > 0 {
				next(t, "cleared", &a, 10*rest[0], len(rest))
			} else {
				none(t, "cleared", &a)
			}
			due(t, "cleared", &a, 100, rest...)
		}
	}
}

// TestAlarmsDue: times ahead of now, at it, and behind it; again at the same time, and at an earlier one.
func TestAlarmsDue(t *testing.T) {
	var a timer.Alarms
	a.Set(10, 5, -5, 3)
	a.Set(20, 4, 1)
	a.Set(-10, 9, 0)
	due(t, "ahead of all", &a, -11)
	due(t, "ahead of all", &a, math.MinInt)
	next(t, "ahead of all", &a, -10, 7)
	due(t, "at the first", &a, -10, 0, 9)
	due(t, "ahead of the next", &a, 9)
	a.Set(9, 0)
	due(t, "set again at an earlier time", &a, 9, 0)
	due(t, "several of one time", &a, 19, -5, 3, 5)
	a.Set(15, 6, 2)
	due(t, "behind what is set now", &a, 17, 2, 6)
	a.Set(19, 7)
	due(t, "behind all", &a, math.MaxInt, 7, 1, 4)
	none(t, "behind all", &a)
}

// TestAlarmsEdges: each pair of times and keys at the edges, by rising times, of one time by rising keys.
func TestAlarmsEdges(t *testing.T) {
	for _, t1 := range edges() {
		for _, t2 := range edges() {
			for _, k1 := range edges() {
				for _, k2 := range edges() {
					if k1 == k2 {
						continue
					}
					want := []int{k1, k2}
					if t2 < t1 || t2 == t1 && k2 < k1 {
						want = []int{k2, k1}
					}
					var a timer.Alarms
					a.Set(t1, k1)
					a.Set(t2, k2)
					at(t, "edges", &a, k1, t1)
					at(t, "edges", &a, k2, t2)
					next(t, "edges", &a, min(t1, t2), 2)
					if first := min(t1, t2); first > math.MinInt {
						due(t, "ahead of both", &a, first-1)
					}
					if t1 != t2 {
						due(t, "the first", &a, max(t1, t2)-1, want[0])
						due(t, "the second", &a, max(t1, t2), want[1])
					} else {
						due(t, "both", &a, t1, want...)
					}
				}
			}
		}
	}
	var a timer.Alarms
	a.Set(math.MaxInt, edges()...)
	due(t, "the greatest time", &a, math.MaxInt-1)
	due(t, "the greatest time", &a, math.MaxInt, edges()...)
	a.Set(math.MinInt, edges()...)
	due(t, "the least time", &a, math.MinInt, edges()...)
}

// TestAlarmsHandedIn: keys that are handed in stay as they are, their spare room included, and aren't kept; what Due answers is new memory.
func TestAlarmsHandedIn(t *testing.T) {
	var a timer.Alarms
	all := []int{3, 1, 2, 1, -7, -8, -9}
	a.Set(5, all[:4]...)
	a.Set(6, all[:2]...)
	a.Clear(all[1:2]...)
	if !slices.Equal(all, []int{3, 1, 2, 1, -7, -8, -9}) {
		t.Errorf("P10.3: what was handed in is %v", all)
	}
	for i := range all {
		all[i] = 99
	}
	at(t, "handed in", &a, 3, 6)
	next(t, "handed in", &a, 5, 2)
	a.Set(7, 4, 5, 6)
	got := a.Due(6)
	if !slices.Equal(got, []int{2, 3}) {
		t.Fatalf("P10.3: Due: %v", got)
	}
	for i := range got[:cap(got)] {
		got[:cap(got)][i] = 99
	}
	at(t, "an answer", &a, 4, 7)
	more := a.Due(7)
	if !slices.Equal(more, []int{4, 5, 6}) || got[0] != 99 || got[1] != 99 {
		t.Errorf("P10.3: Due: %v, and the one ahead of it is %v", more, got)
	}
	a.Set(8, 1, 2)
	if !slices.Equal(more, []int{4, 5, 6}) {
		t.Errorf("P10.3: what Due answered is %v", more)
	}
}

// TestAlarmsMany: it comes to an end of very many keys, in whatever order they come, and go.
func TestAlarmsMany(t *testing.T) {
	const many = 1 << 18
	var a timer.Alarms
	var keys, odd []int
	for i := range many {
		keys = append(keys, many-i)
		a.Set((i*40503)%many, i)
		if i%2 == 1 {
			odd = append(odd, i)
		}
	}
	next(t, "very many", &a, 0, many)
	a.Set(7, keys...)
	next(t, "very many", &a, 0, many+1)
	a.Clear(odd...)
	next(t, "very many", &a, 0, many/2+1)
	if got := a.Due(0); !slices.Equal(got, []int{0}) {
		t.Fatalf("P10.3: very many: Due(0): %d", len(got))
	}
	got := a.Due(7)
	if len(got) != many/2 || !slices.IsSorted(got) || got[0] != 2 || got[len(got)-1] != many {
		t.Fatalf("P10.3: very many: Due: %d", len(got))
	}
	none(t, "very many", &a)
}
