package session_test

import (
	"testing"

	"echelon/api"
	"echelon/session"
)

// TestOperationsAnswer: what an operation answers is neither changed nor kept, its spare room included.
func TestOperationsAnswer(t *testing.T) {
	s := session.New()
	o := &op{answer: roomy("abc")}
	b, e := s.Once(1, 1, o.do)
	if string(b) != "abc" || e != api.OK || string(o.answer[:8]) != "abc....." {
		t.Fatalf("rule 5: Once: %q, %d, of %q", b, e, o.answer[:8])
	}
	spoil(o.answer)
	if string(b) != "abc" {
		t.Errorf("P13.3: the answer shares memory with the operation's: %q", b)
	}
	last(t, s, 1, 1, "abc")
	once(t, s, 1, 1, "x", "abc", api.OK, 0)
	holds(t, "an answer that was spoilt", s, row(1, 1, "abc"))
	// An answer that an operation keeps, and changes when it is called again.
	again := func() []byte { o.answer[0]++; return o.answer }
	o.answer = roomy("abc")
	for seq, want := range []string{"bbc", "cbc", "dbc"} {
		if b, _ := s.Once(2, seq+1, again); string(b) != want {
			t.Errorf("P13.1: Once: %q, not %q", b, want)
		}
	}
	last(t, s, 2, 3, "dbc")
}

// TestAnswers: answers are new memory: changed, they change nothing.
func TestAnswers(t *testing.T) {
	s := session.New()
	for range 3 {
		b, _ := s.Once(1, 1, (&op{answer: []byte("abc")}).do)
		spoil(b)
		_, b = s.Last(1)
		spoil(b)
		b = s.Bytes()
		spoil(b)
		c := s.Bytes()
		_ = append(c[:3], "over it all"...)
		last(t, s, 1, 1, "abc")
		once(t, s, 1, 1, "x", "abc", api.OK, 0)
		holds(t, "answers that were spoilt", s, row(1, 1, "abc"))
	}
	// No two answers share any: each is spoilt, and the others stay.
	a, _ := s.Once(1, 1, nil)
	_, b := s.Last(1)
	c, _ := s.Once(1, 1, nil)
	spoil(a)
	if string(b) != "abc" || string(c) != "abc" {
		t.Errorf("P13.3: answers share memory: %q, %q", b, c)
	}
}

// TestParseMemory: the bytes that are handed in are neither changed nor kept, their spare room included.
func TestParseMemory(t *testing.T) {
	text := string(rows(row(1, 1, "abc"), row(2, 5, ""), row(3, 9, "xyz")))
	b := roomy(text)
	s := parsed(t, b)
	if string(b) != text || string(b[len(b):][:9]) != "........." {
		t.Fatalf("rule 5: Parse changed what was handed in: %x", b)
	}
	spoil(b)
	holds(t, "bytes that were spoilt", s, row(1, 1, "abc"), row(2, 5, ""), row(3, 9, "xyz"))
	_, first := s.Last(1)
	_ = append(first, "over the next"...)
	spoil(first)
	holds(t, "an answer that was spoilt", s, row(1, 1, "abc"), row(2, 5, ""), row(3, 9, "xyz"))
	// Two tables of the same bytes share nothing.
	u, v := parsed(t, []byte(text)), parsed(t, []byte(text))
	once(t, u, 1, 2, "new", "new", api.OK, 1)
	u.Drop(3)
	holds(t, "another table", v, row(1, 1, "abc"), row(2, 5, ""), row(3, 9, "xyz"))
}

// TestDropMemory: the numbers that are handed in aren't changed.
func TestDropMemory(t *testing.T) {
	s := parsed(t, rows(row(1, 1, "a"), row(2, 1, "b"), row(3, 1, "c")))
	clients := []int{3, 1, 3, -1, 2}
	s.Drop(clients[:3]...)
	for i, want := range []int{3, 1, 3, -1, 2} {
		if clients[i] != want {
			t.Errorf("rule 5: Drop made %v of what was handed in", clients)
		}
	}
	holds(t, "two dropped", s, row(2, 1, "b"))
}
