package timer

import (
	"container/heap"
	"iter"
	"slices"
)

// Alarms are keys with times, each with one at most. The zero value has none.
type Alarms struct {
	waiting queue
}

// Set gives keys a time, in place of those that they had.
func (a *Alarms) Set(at int, keys ...int) {
	for _, key := range keys {
		if place, ok := a.waiting.places[key]; ok {
			a.waiting.rows[place].at = at
			heap.Fix(&a.waiting, place)
		} else {
			heap.Push(&a.waiting, alarm{at: at, key: key})
		}
	}
}

// Clear takes keys' times away.
func (a *Alarms) Clear(keys ...int) {
	for _, key := range keys {
		if place, ok := a.waiting.places[key]; ok {
			heap.Remove(&a.waiting, place)
		}
	}
}

// At is a key's time.
func (a *Alarms) At(key int) (int, bool) {
	place, ok := a.waiting.places[key]
	if !ok {
		return 0, false
	}
	return a.waiting.rows[place].at, true
}

// Next is the least time.
func (a *Alarms) Next() (int, bool) {
	if a.Len() == 0 {
		return 0, false
	}
	return a.waiting.rows[0].at, true
}

// Due are the keys whose times have come, by their times; they have none any more.
func (a *Alarms) Due(now int) []int {
	return slices.Collect(a.ring(now))
}

// ring lets one after the other go whose time has come, and tells its key.
func (a *Alarms) ring(now int) iter.Seq[int] {
	return func(yield func(int) bool) {
		for at, ok := a.Next(); ok && at <= now; at, ok = a.Next() {
			key := a.waiting.rows[0].key
			heap.Pop(&a.waiting)
			if !yield(key) {
				return
			}
		}
	}
}

// Len is how many there are.
func (a *Alarms) Len() int {
	return a.waiting.Len()
}
