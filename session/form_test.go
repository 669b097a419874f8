package session_test

import (
	"bytes"
	"math/rand"
	"slices"
	"testing"

	"echelon/api"
	"echelon/mould"
	"echelon/session"
)

// TestBytes: a table's bytes, clients rising however they came, and the table of them again.
func TestBytes(t *testing.T) {
	s := session.New()
	if b := s.Bytes(); string(b) != "\x00" {
		t.Errorf("P13.3: Bytes of an empty table: %x", b)
	}
	once(t, s, 8, 1, "", "", api.OK, 1)
	once(t, s, 7, 3, "c", "c", api.OK, 1)
	if b := s.Bytes(); string(b) != "\x01\x02\x01\x07\x01\x03\x01\x01c\x01\x08\x01\x01\x00" {
		t.Errorf("P13.3: Bytes: %x", b)
	}
	var want []string
	s = session.New()
	clients := []int{top - 1, 0, 256, 255, 1, 1 << 32, 1<<32 - 1}
	for i, client := range clients {
		text := texts()[i%len(texts())]
		once(t, s, client, 1+i*i, text, text, api.OK, 1)
	}
	slices.Sort(clients)
	for _, client := range clients {
		seq, answer := s.Last(client)
		want = append(want, row(uint64(client), uint64(seq), string(answer)))
	}
	holds(t, "many", s, want...)
	holds(t, "many, read back", parsed(t, s.Bytes()), want...)
}

// TestManyClients: a table of very many.
func TestManyClients(t *testing.T) {
	s := session.New()
	var want []string
	for i := range 40000 {
		once(t, s, (i*7919)%40000, 2, "x", "x", api.OK, 1)
		want = append(want, row(uint64(i), 2, "x"))
	}
	holds(t, "many", s, want...)
	u := parsed(t, s.Bytes())
	holds(t, "many, read back", u, want...)
	once(t, u, 39999, 1, "y", "", api.ErrSeq, 0)
}

// TestParse: what a table of bytes does is what the one does that they were of.
func TestParse(t *testing.T) {
	for _, b := range [][]byte{
		rows(),
		rows(row(0, 1, "")),
		rows(row(0, top-1, "a")),
		rows(row(top-1, 1, "b")),
		rows(row(top-1, top-1, "")),
		rows(row(0, 9, "x"), row(1, 1, "y"), row(300, 256, "z")),
		rows(row(6, 2, texts()[5]), row(7, 2, texts()[6])),
	} {
		s := parsed(t, b)
		if !bytes.Equal(s.Bytes(), b) {
			t.Errorf("P13.3: Bytes of Parse of %.60x: %.60x", b, s.Bytes())
		}
	}
	s := parsed(t, rows(row(0, 9, "x"), row(300, 256, "z")))
	last(t, s, 0, 9, "x")
	last(t, s, 300, 256, "z")
	none(t, s, 1, 299, 301)
	once(t, s, 0, 8, "new", "", api.ErrSeq, 0)
	once(t, s, 0, 9, "new", "x", api.OK, 0)
	once(t, s, 0, 10, "new", "new", api.OK, 1)
	once(t, s, 1, 1, "first", "first", api.OK, 1)
	s.Drop(300)
	holds(t, "read back and led on", s, row(0, 10, "new"), row(1, 1, "first"))
}

// wrong holds bytes to be no table's.
func wrong(t *testing.T, what string, b []byte, want api.Errno) {
	t.Helper()
	was := slices.Clone(b)
	if s, e := session.Parse(b); s != nil || e != want {
		t.Errorf("P13.3: Parse of %s, %.60x: %v, %d, not %d", what, b, s, e, want)
	}
	if !bytes.Equal(b, was) {
		t.Errorf("rule 5: Parse of %s changed it", what)
	}
}

// TestParseForm: rows that may not be: clients that don't rise, and numbers that aren't as told.
func TestParseForm(t *testing.T) {
	wrong(t, "one client twice", rows(row(7, 1, "a"), row(7, 2, "b")), api.ErrForm)
	wrong(t, "one row twice", rows(row(7, 1, "a"), row(7, 1, "a")), api.ErrForm)
	wrong(t, "client 0 twice", rows(row(0, 1, "a"), row(0, 1, "a")), api.ErrForm)
	wrong(t, "clients that fall", rows(row(7, 1, "a"), row(6, 2, "b")), api.ErrForm)
	wrong(t, "clients of which the last falls", rows(row(1, 1, ""), row(2, 1, ""), row(3, 1, ""), row(0, 1, "")), api.ErrForm)
	wrong(t, "clients of which the third is the first", rows(row(1, 1, ""), row(2, 1, ""), row(1, 1, "")), api.ErrForm)
	for _, n := range []uint64{top, top + 1, 1 << 48, 1<<63 - 1, 1 << 63, 1<<63 + 1, 1<<64 - 1} {
		for _, more := range [][]string{nil, {row(0, 1, "a")}} {
			wrong(t, "a client's number", rows(append(more, row(n, 1, "x"))...), api.ErrForm)
			wrong(t, "an operation's number", rows(append(more, row(5, n, "x"))...), api.ErrForm)
			wrong(t, "a number ahead of a right one", rows(append([]string{row(1, n, "x")}, row(2, 1, "a"))...), api.ErrForm)
		}
	}
	wrong(t, "operation 0", rows(row(7, 0, "")), api.ErrForm)
	wrong(t, "operation 0 of client 0", rows(row(0, 0, "")), api.ErrForm)
	wrong(t, "operation 0 behind another one", rows(row(7, 1, "a"), row(8, 0, "b")), api.ErrForm)
}

// TestParseTake: layer 1's errors, which go ahead of what the rows say.
func TestParseTake(t *testing.T) {
	wrong(t, "nothing", nil, api.ErrShort)
	wrong(t, "no bytes", []byte{}, api.ErrShort)
	wrong(t, "a count alone", []byte{1, 1}, api.ErrShort)
	wrong(t, "a count of more than there are", rows(row(7, 1, "a"))[1:], api.ErrShort)
	wrong(t, "a number of nine bytes", []byte{9}, api.ErrForm)
	wrong(t, "a 0 that leads", []byte{1, 0}, api.ErrForm)
	wrong(t, "an answer that is cut", []byte("\x01\x01\x01\x07\x01\x01\x01\x03ab"), api.ErrShort)
	wrong(t, "a byte more", append(rows(), 0), api.ErrExtra)
	wrong(t, "a byte more, and operation 0", append(rows(row(7, 0, "")), 0), api.ErrExtra)
	wrong(t, "a byte more, and clients that fall", append(rows(row(7, 1, ""), row(6, 1, "")), 1), api.ErrExtra)
	short := rows(row(7, 0, ""), row(6, 1, "abc"))
	wrong(t, "a cut answer, and clients that fall", short[:len(short)-1], api.ErrShort)
}

// judge is what Parse is to answer of bytes, told by the form of what they say.
func judge(b []byte) (want []string, e api.Errno) {
	v, e := mould.Take("*[nnb]", b)
	if e != api.OK {
		return nil, e
	}
	for i, r := range v.L {
		client, seq := r.L[0].N, r.L[1].N
		if client >= top || seq >= top || seq == 0 || i > 0 && client <= v.L[i-1].L[0].N {
			return nil, api.ErrForm
		}
		want = append(want, row(client, seq, string(r.L[2].B)))
	}
	return want, api.OK
}

// look holds what Parse answers of any bytes: an error as judged, or a table that has just these bytes.
func look(t *testing.T, b []byte) api.Errno {
	t.Helper()
	want, e := judge(b)
	s, f := session.Parse(b)
	if f != e || (s == nil) != (e != api.OK) {
		t.Fatalf("P13.3: Parse of %.60x: %v, %d, not %d", b, s, f, e)
	}
	if s != nil {
		holds(t, "read back", s, want...)
		if !bytes.Equal(s.Bytes(), b) {
			t.Fatalf("P13.3: of %.60x it has %.60x", b, s.Bytes())
		}
	}
	return e
}

// TestParseSpoilt: tables' bytes cut short, longer by a byte, and with a byte changed to each other one.
func TestParseSpoilt(t *testing.T) {
	for _, b := range [][]byte{
		rows(),
		rows(row(0, 1, "")),
		rows(row(7, 3, "c"), row(8, 1, "")),
		rows(row(255, 256, "abc"), row(256, top-1, "\x00\x01"), row(top-1, 1, "z")),
	} {
		for n := range b {
			wrong(t, "a table cut short", b[:n], api.ErrShort)
			for x := range 256 {
				c := slices.Clone(b)
				c[n] = byte(x)
				look(t, c)
			}
		}
		for x := range 256 {
			wrong(t, "a table and a byte", append(slices.Clone(b), byte(x)), api.ErrExtra)
			look(t, append([]byte{byte(x)}, b...))
		}
	}
}

// TestParseRandom: random bytes, of few values, and rows of random numbers.
func TestParseRandom(t *testing.T) {
	got := map[api.Errno]int{}
	for seed := range int64(60000) {
		r := rand.New(rand.NewSource(seed))
		b := make([]byte, r.Intn(24))
		for i := range b {
			b[i] = byte(r.Intn([]int{3, 5, 256}[r.Intn(3)]))
		}
		if seed%2 == 0 {
			var rs []string
			client := uint64(0)
			for range r.Intn(6) {
				client += uint64(r.Intn(40))
				rs = append(rs, row(client, uint64(r.Intn(30)), "abcdef"[:r.Intn(6)]))
			}
			b = rows(rs...)
		}
		got[look(t, b)]++
	}
	for _, e := range []api.Errno{api.OK, api.ErrShort, api.ErrForm, api.ErrExtra} {
		if got[e] < 1000 {
			t.Errorf("only %d were %d", got[e], e)
		}
	}
}

// FuzzParse: what Parse takes is what Bytes lay, and nothing else.
func FuzzParse(f *testing.F) {
	f.Add([]byte{})
	f.Add(rows())
	f.Add(rows(row(7, 3, "c"), row(8, 1, "")))
	f.Fuzz(func(t *testing.T, b []byte) { look(t, b) })
}
