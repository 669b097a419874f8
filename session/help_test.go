package session_test

import (
	"math"
	"slices"
	"strings"
	"testing"

	"echelon/api"
	"echelon/session"
)

// top is what the numbers of clients, and of operations, stay below.
const top = 1 << 40

// numbers are some of which a client may have all from 0 on and below top, and an operation all but 0 of these.
func numbers() []int {
	return []int{math.MinInt, math.MinInt + 1, -top, -2, -1, 0, 1, 2, 255, 256, top - 2, top - 1, top, top + 1, 1 << 62, math.MaxInt - 1, math.MaxInt}
}

// may: may a number be one from there on, below top?
func may(n, from int) bool { return n >= from && n < top }

// texts are answers: none, empty, short, long.
func texts() []string {
	return []string{"", "\x00", "a", "answer", strings.Repeat("q", 255), strings.Repeat("r", 256), strings.Repeat("s", 70000)}
}

// word is what a number is laid as, without the layer that is called.
func word(n uint64) string {
	b := ""
	for ; n > 0; n >>= 8 {
		b = string([]byte{byte(n)}) + b
	}
	return string([]byte{byte(len(b))}) + b
}

// row is a client's row as it is laid, whether it may be or not.
func row(client, seq uint64, answer string) string {
	return word(client) + word(seq) + word(uint64(len(answer))) + answer
}

// rows are a table's bytes, of rows that are laid.
func rows(rs ...string) []byte {
	return []byte(word(uint64(len(rs))) + strings.Join(rs, ""))
}

// op is an operation with an answer, and how often it was called.
type op struct {
	answer []byte
	calls  int
}

func (o *op) do() []byte {
	o.calls++
	return o.answer
}

// once holds Once to answer so, and to call the operation so often.
func once(t *testing.T, s *session.Table, client, seq int, answer, want string, e api.Errno, calls int) {
	t.Helper()
	o := &op{answer: []byte(answer)}
	b, f := s.Once(client, seq, o.do)
	if string(b) != want || f != e || o.calls != calls {
		t.Fatalf("P13.1: Once(%d, %d, %.20q): %.20q, %d, %d calls, not %.20q, %d, %d", client, seq, answer, b, f, o.calls, want, e, calls)
	}
}

// last holds what a table tells of a client.
func last(t *testing.T, s *session.Table, client, seq int, answer string) {
	t.Helper()
	if n, b := s.Last(client); n != seq || string(b) != answer {
		t.Fatalf("P13.2: Last(%d): %d, %.20q, not %d, %.20q", client, n, b, seq, answer)
	}
}

// none holds clients to have no last.
func none(t *testing.T, s *session.Table, clients ...int) {
	t.Helper()
	for _, client := range clients {
		last(t, s, client, 0, "")
	}
}

// holds holds a table's bytes, and how many clients it has.
func holds(t *testing.T, what string, s *session.Table, rs ...string) {
	t.Helper()
	if b := s.Bytes(); !slices.Equal(b, rows(rs...)) || s.Len() != len(rs) {
		t.Fatalf("P13.3: %s: %d clients, %.60x, not %d, %.60x", what, s.Len(), b, len(rs), rows(rs...))
	}
}

// parsed is the table of bytes that are one's.
func parsed(t *testing.T, b []byte) *session.Table {
	t.Helper()
	s, e := session.Parse(b)
	if s == nil || e != api.OK {
		t.Fatalf("P13.3: Parse of %.60x: %v, %d", b, s, e)
	}
	return s
}

// roomy is bytes with spare room behind them, all of it filled.
func roomy(s string) []byte {
	b := append([]byte(s), "................"...)
	return b[:len(s)]
}

// spoil changes bytes, and their spare room.
func spoil(b []byte) {
	b = b[:cap(b)]
	for i := range b {
		b[i] ^= 0xff
	}
}
