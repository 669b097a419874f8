package timer

// alarm is a key with its time.
type alarm struct {
	at, key int
}

// queue is a heap of alarms by times, of one time by keys. It knows where each key stands, so that one can be set again or cleared in its place.
type queue struct {
	rows   []alarm
	places map[int]int
}

// Len is how many there are.
func (q *queue) Len() int {
	return len(q.rows)
}

// Less: does one come ahead of the other?
func (q *queue) Less(i, j int) bool {
	a, b := q.rows[i], q.rows[j]
	return a.at < b.at || a.at == b.at && a.key < b.key
}

// Swap lets two change places.
func (q *queue) Swap(i, j int) {
	q.rows[i], q.rows[j] = q.rows[j], q.rows[i]
	q.places[q.rows[i].key], q.places[q.rows[j].key] = i, j
}

// Push lays one at the end.
func (q *queue) Push(x any) {
	if one, ok := x.(alarm); ok {
		if q.places == nil {
			q.places = map[int]int{}
		}
		q.places[one.key] = len(q.rows)
		q.rows = append(q.rows, one)
	}
}

// Pop takes the one at the end away.
func (q *queue) Pop() any {
	last := len(q.rows) - 1
	one := q.rows[last]
	q.rows = q.rows[:last]
	delete(q.places, one.key)
	if last == 0 {
		*q = queue{} // a map's room never shrinks: it goes with the last one
	}
	return one
}
