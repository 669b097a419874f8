package chunk_test

import (
	"fmt"
	"math/rand"
	"testing"

	"echelon/api"
	"echelon/chunk"
)

// model does what the chapter says, slow and plain.
type model struct {
	most  int
	of    api.Piece // what it gathers is what goes together with this one; none is of Index 0
	there map[int]byte
}

func (m *model) right(p api.Piece) bool {
	if p.Index < 1 || p.Index >= top || p.Term < 1 || p.Term >= top || p.Total < 0 || p.Total > m.most || p.At < 0 {
		return false
	}
	if p.Total == 0 {
		return len(p.B) == 0 && p.At == 0
	}
	return len(p.B) > 0 && p.At <= p.Total && len(p.B) <= p.Total-p.At
}

func together(a, b api.Piece) bool {
	return a.Index == b.Index && a.Term == b.Term && a.Sum == b.Sum && a.Total == b.Total
}

func (m *model) take(ps []api.Piece) (bool, api.Errno) {
	for _, p := range ps {
		if e := m.one(p); e != api.OK {
			return m.all(), e
		}
	}
	return m.all(), api.OK
}

func (m *model) one(p api.Piece) api.Errno {
	if !m.right(p) {
		return api.ErrArg
	}
	gathers := m.of.Index != 0
	if gathers && (m.of.Index > p.Index || m.of.Index == p.Index && !together(m.of, p)) {
		return api.ErrStale
	}
	if !gathers || p.Index > m.of.Index {
		m.of, m.there = p, map[int]byte{}
	}
	for i, c := range p.B {
		if x, ok := m.there[p.At+i]; ok && x != c {
			return api.ErrClash
		}
	}
	for i, c := range p.B {
		m.there[p.At+i] = c
	}
	if m.all() && sumOf(m.bytes()) != m.of.Sum {
		m.of, m.there = api.Piece{}, nil
		return api.ErrSum
	}
	return api.OK
}

func (m *model) all() bool { return m.of.Index != 0 && len(m.there) == m.of.Total }

func (m *model) missing() int {
	for i := 0; ; i++ {
		if _, ok := m.there[i]; !ok {
			return i
		}
	}
}

func (m *model) bytes() string {
	var b []byte
	for i := range m.of.Total {
		b = append(b, m.there[i])
	}
	return string(b)
}

func (m *model) tell() string {
	if !m.all() {
		return fmt.Sprintf(`%v, missing %d, whole "" false`, m.of.Mark, m.missing())
	}
	return fmt.Sprintf("%v, missing %d, whole %q true", m.of.Mark, m.missing(), m.bytes())
}

// drawn is a piece, mostly a right one, of one of a few snapshots; some of its numbers or bytes are turned now and then.
func drawn(r *rand.Rand, wide int) api.Piece {
	m := mark(1+r.Intn(3), 1+r.Intn(2))
	all := text(m.Index * m.Term * wide % 131)
	if all == "" {
		return part(m, all, 0, 0)
	}
	from := r.Intn(len(all))
	p := part(m, all, from, from+1+r.Intn(len(all)-from))
	// Of some of them the Sum that is told is always a wrong one.
	if m.Term == 2 && m.Index < 3 {
		p.Sum ^= 5
	}
	switch r.Intn(40) {
	case 0:
		p.B[r.Intn(len(p.B))]++
	case 1:
		p.Sum++
	case 2:
		p.Total += r.Intn(3) - 1
	case 3:
		p.At += r.Intn(5) - 2
	case 4:
		p.B = nil
	case 5:
		p.Index -= r.Intn(4)
	case 6:
		p.Term = []int{-1, 0, 1, top - 1, top}[r.Intn(5)]
	}
	return p
}

// TestModel: long rows of calls answer what the model does.
func TestModel(t *testing.T) {
	errs := map[api.Errno]int{}
	wholes := 0
	for seed := range int64(1500) {
		r := rand.New(rand.NewSource(seed))
		most, wide := []int{-1, 0, 1, 60, 131, 131, 131, 131}[r.Intn(8)], 1+r.Intn(130)
		h, m := chunk.New(most), &model{most: most}
		calls := fmt.Sprintf("New(%d)", most)
		for range 60 {
			if r.Intn(8) == 0 {
				h.Drop()
				*m = model{most: most}
				calls += " Drop"
			} else {
				ps := make([]api.Piece, r.Intn(4))
				for i := range ps {
					ps[i] = drawn(r, wide)
				}
				calls += fmt.Sprintf(" Take(%v)", ps)
				want, e := m.take(ps)
				takes(t, "P7.2: "+calls, h, want, e, ps...)
				errs[e]++
			}
			if got, want := tell(h), m.tell(); got != want {
				t.Fatalf("P7.3: %s: the heap has\n%s, not\n%s", calls, got, want)
			}
			if m.all() {
				wholes++
			}
		}
	}
	for _, e := range []api.Errno{api.OK, api.ErrArg, api.ErrStale, api.ErrClash, api.ErrSum} {
		if errs[e] < 100 || wholes < 100 {
			t.Errorf("the rows come to %d only %d times, to whole bytes %d times", e, errs[e], wholes)
		}
	}
}

// FuzzTake: what pieces come to be in a heap, whatever they are, is what the model has.
func FuzzTake(f *testing.F) {
	f.Add(5, []byte("\x00\x01\x05\x00\x02abcde"))
	f.Fuzz(func(t *testing.T, most int, b []byte) {
		if most > 1<<16 {
			most = 1 << 16
		}
		h, m := chunk.New(most), &model{most: most}
		for len(b) >= 5 {
			n := min(int(b[4])%16, len(b)-5)
			p := api.Piece{Mark: mark(int(b[0])%4, 1+int(b[1])%2), Total: int(int8(b[2])), At: int(int8(b[3])), B: b[5 : 5+n]}
			if b[0]&16 == 0 {
				p.Sum = sumOf(string(p.B))
			}
			b = b[5+n:]
			want, e := m.take([]api.Piece{p})
			takes(t, "P7.2", h, want, e, p)
			if got, want := tell(h), m.tell(); got != want {
				t.Fatalf("P7.3: the heap has %s, not %s", got, want)
			}
		}
	})
}
