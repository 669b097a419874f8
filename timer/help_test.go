package timer_test

import (
	"math"
	"slices"
	"testing"

	"echelon/api"
	"echelon/timer"
)

// most is the greatest least of a timer.
const most = 1 << 31

// edges are times and keys at which something could go wrong; a call takes all of them.
func edges() []int {
	return []int{math.MinInt, math.MinInt + 1, -most - 1, -2, -1, 0, 1, 2, 3, most - 1, most, most + 1, math.MaxInt - 1, math.MaxInt}
}

// wrong are leasts that may not be.
func wrong() []int {
	return []int{math.MinInt, math.MinInt + 1, -most - 1, -most, -2, -1, 0, most + 1, most + 2, 1 << 32, 1<<32 + 1, math.MaxInt - 1, math.MaxInt}
}

// leasts are some that may be.
func leasts() []int {
	return []int{1, 2, 3, 5, 7, 10, 64, 1000, 1<<20 + 1, most / 2, most - 1, most}
}

// draws are those at which a least's rests begin and end, and the greatest.
func draws(least int) []uint64 {
	n := uint64(least)
	return []uint64{0, 1, n - 1, n, n + 1, 2*n - 1, 2 * n, 37, 1<<31 - 1, 1 << 31, 1 << 32, 1<<63 - 1, 1 << 63, 1<<63 + 1, math.MaxUint64 - 1, math.MaxUint64}
}

// made is a timer that New answers.
func made(t *testing.T, least int, draw uint64) *timer.Timer {
	t.Helper()
	k, e := timer.New(least, draw)
	if k == nil || e != api.OK {
		t.Fatalf("P10.2: New(%d, %d): %v, %v", least, draw, k, e)
	}
	return k
}

// fires holds a timer that is to fire behind so many ticks to do so, and for some ticks from then on.
func fires(t *testing.T, what string, k *timer.Timer, span, behind int) {
	t.Helper()
	for i := 1; i <= span+behind; i++ {
		if left := k.Left(); left != max(span-i+1, 0) {
			t.Fatalf("P10.2: %s: %d are left ahead of tick %d of %d", what, left, i, span)
		}
		if got := k.Tick(); got != (i >= span) {
			t.Fatalf("P10.2: %s: tick %d of %d: %v", what, i, span, got)
		}
		if left := k.Left(); left != max(span-i, 0) {
			t.Fatalf("P10.2: %s: %d are left behind tick %d of %d", what, left, i, span)
		}
	}
}

// at holds a key to have a time.
func at(t *testing.T, what string, a *timer.Alarms, key, want int) {
	t.Helper()
	if got, ok := a.At(key); got != want || !ok {
		t.Fatalf("P10.3: %s: At(%d): %d, %v, not %d", what, key, got, ok, want)
	}
}

// without holds keys to have no time.
func without(t *testing.T, what string, a *timer.Alarms, keys ...int) {
	t.Helper()
	for _, key := range keys {
		if got, ok := a.At(key); got != 0 || ok {
			t.Fatalf("P10.3: %s: At(%d): %d, %v", what, key, got, ok)
		}
	}
}

// next holds alarms to be so many, with this least time.
func next(t *testing.T, what string, a *timer.Alarms, want, n int) {
	t.Helper()
	if got, ok := a.Next(); got != want || !ok || a.Len() != n {
		t.Fatalf("P10.3: %s: Next: %d, %v, not %d; Len: %d, not %d", what, got, ok, want, a.Len(), n)
	}
}

// none holds alarms to be none.
func none(t *testing.T, what string, a *timer.Alarms) {
	t.Helper()
	if got, ok := a.Next(); got != 0 || ok || a.Len() != 0 {
		t.Fatalf("P10.3: %s: Next: %d, %v; Len: %d", what, got, ok, a.Len())
	}
	without(t, what, a, edges()...)
}

// due holds just these keys to be due, in this order, and to have no time any more; a second call has none.
func due(t *testing.T, what string, a *timer.Alarms, now int, want ...int) {
	t.Helper()
	n := a.Len()
	got := a.Due(now)
	if !slices.Equal(got, want) {
		t.Fatalf("P10.3: %s: Due(%d): %v, not %v", what, now, got, want)
	}
	without(t, what, a, want...)
	if a.Len() != n-len(want) {
		t.Fatalf("P10.3: %s: Due(%d) of %d: %v, and %d are left", what, now, n, got, a.Len())
	}
	if again := a.Due(now); len(again) != 0 {
		t.Fatalf("P10.3: %s: Due(%d) again: %v", what, now, again)
	}
}
