package session_test

import (
	"testing"

	"echelon/api"
	"echelon/session"
)

// TestOnce: the chapter's example, and what one client does doesn't matter to another one.
func TestOnce(t *testing.T) {
	s := session.New()
	once(t, s, 7, 1, "a", "a", api.OK, 1)
	once(t, s, 7, 1, "b", "a", api.OK, 0)
	once(t, s, 7, 3, "c", "c", api.OK, 1)
	once(t, s, 7, 2, "d", "", api.ErrSeq, 0)
	once(t, s, 7, 1, "a", "", api.ErrSeq, 0)
	once(t, s, 7, 3, "e", "c", api.OK, 0)
	once(t, s, 8, 2, "f", "f", api.OK, 1)
	once(t, s, 7, 3, "g", "c", api.OK, 0)
	once(t, s, 8, 1, "h", "", api.ErrSeq, 0)
	holds(t, "two clients", s, row(7, 3, "c"), row(8, 2, "f"))
}

// TestOnceNumbers: all numbers of clients and operations, also such as may not be; then nothing is done.
func TestOnceNumbers(t *testing.T) {
	for _, client := range numbers() {
		for _, seq := range numbers() {
			s := session.New()
			once(t, s, 5, 4, "x", "x", api.OK, 1)
			if may(client, 0) && may(seq, 1) {
				once(t, s, client, seq, "a", "a", api.OK, 1)
				once(t, s, client, seq, "b", "a", api.OK, 0)
				last(t, s, client, seq, "a")
				continue
			}
			once(t, s, client, seq, "a", "", api.ErrArg, 0)
			once(t, s, client, seq, "a", "", api.ErrArg, 0)
			holds(t, "ErrArg", s, row(5, 4, "x"))
			none(t, s, client)
		}
	}
}

// TestOnceArgFirst: what may not be is ErrArg also below a client's last.
func TestOnceArgFirst(t *testing.T) {
	s := session.New()
	once(t, s, 0, top-1, "x", "x", api.OK, 1)
	for _, seq := range []int{0, -1, top} {
		once(t, s, 0, seq, "a", "", api.ErrArg, 0)
	}
	once(t, s, 0, top-2, "a", "", api.ErrSeq, 0)
	once(t, s, 0, top-1, "a", "x", api.OK, 0)
	holds(t, "the greatest", s, row(0, top-1, "x"))
}

// TestOnceAround: one below, at and above a client's last, and far from it; wherever that is.
func TestOnceAround(t *testing.T) {
	for _, at := range []int{1, 2, 3, 255, 256, 1 << 32, top - 2, top - 1} {
		for _, seq := range []int{1, 2, at - 2, at - 1, at, at + 1, at + 2, at + 300, top - 1} {
			s := session.New()
			once(t, s, 3, at, "was", "was", api.OK, 1)
			switch {
			case !may(seq, 1):
				once(t, s, 3, seq, "new", "", api.ErrArg, 0)
			case seq < at:
				once(t, s, 3, seq, "new", "", api.ErrSeq, 0)
			case seq == at:
				once(t, s, 3, seq, "new", "was", api.OK, 0)
			default:
				once(t, s, 3, seq, "new", "new", api.OK, 1)
				once(t, s, 3, at, "elder", "", api.ErrSeq, 0)
				last(t, s, 3, seq, "new")
				continue
			}
			last(t, s, 3, at, "was")
		}
	}
}

// TestOnceAnswers: whatever the answer is, none too, it is kept, and the operation isn't called again.
func TestOnceAnswers(t *testing.T) {
	for _, text := range texts() {
		s := session.New()
		once(t, s, 1, 1, text, text, api.OK, 1)
		once(t, s, 1, 1, "other", text, api.OK, 0)
		last(t, s, 1, 1, text)
		once(t, s, 1, 2, "", "", api.OK, 1)
		last(t, s, 1, 2, "")
		once(t, s, 1, 3, text, text, api.OK, 1)
		holds(t, "an answer", s, row(1, 3, text))
	}
	s, o := session.New(), &op{}
	for range 3 {
		if b, e := s.Once(1, 1, o.do); len(b) != 0 || e != api.OK || o.calls != 1 {
			t.Errorf("P13.1: Once of no answer: %q, %d, %d calls", b, e, o.calls)
		}
	}
	last(t, s, 1, 1, "")
	holds(t, "no answer", s, row(1, 1, ""))
}

// TestOnceBreaks: an operation that isn't there, or that panics, answers nothing, and isn't called again; the call ends.
func TestOnceBreaks(t *testing.T) {
	calls := 0
	for _, do := range []func() []byte{
		nil,
		func() []byte { calls++; panic("op") },
		func() []byte { calls++; panic(nil) },
		func() []byte { calls++; return []byte{1}[calls:] },
		func() []byte { calls++; var m map[int]int; m[1] = 1; return []byte("x") },
	} {
		s := session.New()
		once(t, s, 2, 1, "a", "a", api.OK, 1)
		calls = 1
		for range 2 {
			if b, e := s.Once(2, 2, do); len(b) != 0 || e != api.OK || do != nil && calls != 2 {
				t.Errorf("P13.1: Once: %q, %d, %d calls", b, e, calls)
			}
		}
		last(t, s, 2, 2, "")
		for _, seq := range []int{1, 0} {
			if b, e := s.Once(2, seq, do); len(b) != 0 || e == api.OK || do != nil && calls != 2 {
				t.Errorf("P13.1: Once: %q, %d, %d calls", b, e, calls)
			}
		}
		once(t, s, 2, 3, "c", "c", api.OK, 1)
	}
}

// TestOnceWithin: an operation that looks at its own table finds it as it was ahead of the call, and one that changes it does so.
func TestOnceWithin(t *testing.T) {
	s := session.New()
	once(t, s, 1, 4, "a", "a", api.OK, 1)
	_, e := s.Once(1, 5, func() []byte {
		last(t, s, 1, 4, "a")
		holds(t, "within", s, row(1, 4, "a"))
		once(t, s, 1, 4, "x", "a", api.OK, 0)
		once(t, s, 2, 1, "b", "b", api.OK, 1)
		s.Drop(1, 3)
		none(t, s, 1)
		return []byte("c")
	})
	if e != api.OK {
		t.Errorf("P13.1: Once: %d", e)
	}
	holds(t, "behind it", s, row(1, 5, "c"), row(2, 1, "b"))
}

// TestTwoTables: what one table has another one hasn't.
func TestTwoTables(t *testing.T) {
	a, b := session.New(), session.New()
	once(t, a, 1, 2, "a", "a", api.OK, 1)
	once(t, b, 1, 1, "b", "b", api.OK, 1)
	a.Drop(1)
	last(t, b, 1, 1, "b")
	if a.Len() != 0 || b.Len() != 1 {
		t.Errorf("P13.2: Len: %d, %d", a.Len(), b.Len())
	}
}
