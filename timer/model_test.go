package timer_test

import (
	"fmt"
	"maps"
	"math/rand"
	"slices"
	"testing"

	"echelon/timer"
)

// model is alarms as a map of times by keys.
type model map[int]int

// due are the keys whose times aren't behind now, found one by one: each time the one of the least time, and of that the least key.
func (m model) due(now int) []int {
	var keys []int
	for {
		best, found := 0, false
		for key, at := range m {
			if at <= now && (!found || at < m[best] || at == m[best] && key < best) {
				best, found = key, true
			}
		}
		if !found {
			return keys
		}
		keys = append(keys, best)
		delete(m, best)
	}
}

// same holds alarms against the model.
func (m model) same(t *testing.T, what string, a *timer.Alarms) {
	t.Helper()
	if a.Len() != len(m) {
		t.Fatalf("P10.3: %s: Len: %d, not %d", what, a.Len(), len(m))
	}
	for key := -4; key < 14; key++ {
		got, ok := a.At(key)
		if want, has := m[key]; got != want || ok != has {
			t.Fatalf("P10.3: %s: At(%d): %d, %v, not %d, %v", what, key, got, ok, want, has)
		}
	}
	got, ok := a.Next()
	if len(m) == 0 && (got != 0 || ok) {
		t.Fatalf("P10.3: %s: Next of none: %d, %v", what, got, ok)
	}
	if len(m) > 0 && (!ok || got != slices.Min(slices.Collect(maps.Values(m)))) {
		t.Fatalf("P10.3: %s: Next: %d, %v of %v", what, got, ok, m)
	}
}

// drawn are a few keys; one may stand twice.
func drawn(r *rand.Rand) []int {
	var keys []int
	for range r.Intn(5) {
		keys = append(keys, r.Intn(18)-4)
	}
	return keys
}

// TestAlarmsModel: long rows of calls do what the model says, on two Alarms, neither of which tells of the other.
func TestAlarmsModel(t *testing.T) {
	done := map[string]int{}
	for seed := range int64(2000) {
		r := rand.New(rand.NewSource(seed))
		var as [2]timer.Alarms
		ms := [2]model{{}, {}}
		for step := range 80 {
			i, keys, what := r.Intn(2), drawn(r), ""
			switch r.Intn(8) {
			case 0, 1, 2, 3:
				time := r.Intn(20) - 5
				if r.Intn(10) == 0 {
					time = edges()[r.Intn(len(edges()))]
				}
				what = fmt.Sprint("Set ", time, keys)
				as[i].Set(time, keys...)
				for _, key := range keys {
					ms[i][key] = time
				}
				done["set"]++
			case 4, 5:
				what = fmt.Sprint("Clear ", keys)
				as[i].Clear(keys...)
				for _, key := range keys {
					delete(ms[i], key)
				}
				done["clear"]++
			default:
				now := r.Intn(22) - 8
				what = fmt.Sprint("Due ", now)
				got, want := as[i].Due(now), ms[i].due(now)
				if !slices.Equal(got, want) {
					t.Fatalf("P10.3: seed %d, step %d: %s: %v, not %v", seed, step, what, got, want)
				}
				if len(want) > 1 {
					done["due of several"]++
				}
			}
			for i := range as {
				ms[i].same(t, fmt.Sprintf("seed %d, step %d: %s", seed, step, what), &as[i])
			}
		}
	}
	if done["set"] < 1000 || done["clear"] < 1000 || done["due of several"] < 1000 {
		t.Errorf("drawn too seldom: %v", done)
	}
}
