package session_test

import (
	"fmt"
	"math/rand"
	"slices"
	"testing"

	"echelon/api"
	"echelon/session"
)

// did is what a client of the model did last.
type did struct {
	client, seq int
	answer      string
}

// model is a table as a list.
type model []did

// find is where a client stands, or -1.
func (m model) find(client int) int {
	return slices.IndexFunc(m, func(d did) bool { return d.client == client })
}

// once is what Once is to answer, and how often it is to call.
func (m *model) once(client, seq int, answer string) (string, api.Errno, int) {
	if client < 0 || client >= top || seq < 1 || seq >= top {
		return "", api.ErrArg, 0
	}
	i := m.find(client)
	if i < 0 {
		*m = append(*m, did{client: client})
		i = len(*m) - 1
	}
	d := &(*m)[i]
	if seq < d.seq {
		return "", api.ErrSeq, 0
	}
	if seq == d.seq {
		return d.answer, api.OK, 0
	}
	d.seq, d.answer = seq, answer
	return answer, api.OK, 1
}

// same holds a table against the model.
func (m model) same(t *testing.T, what string, s *session.Table) {
	t.Helper()
	slices.SortFunc(m, func(a, b did) int { return a.client - b.client })
	var rs []string
	for _, d := range m {
		last(t, s, d.client, d.seq, d.answer)
		rs = append(rs, row(uint64(d.client), uint64(d.seq), d.answer))
	}
	holds(t, what, s, rs...)
}

// TestModel: long rows of calls do what the model says; at times the table goes on as one that was read back.
func TestModel(t *testing.T) {
	done := map[api.Errno]int{}
	for seed := range int64(600) {
		r := rand.New(rand.NewSource(seed))
		s, m := session.New(), model{}
		someone := func() int {
			if r.Intn(20) == 0 {
				return numbers()[r.Intn(len(numbers()))]
			}
			return r.Intn(9) - 1
		}
		for step := range 120 {
			what := fmt.Sprint(seed, ": step ", step)
			switch k := r.Intn(20); {
			case k < 14:
				client, seq := someone(), r.Intn(9)
				if i := m.find(client); i >= 0 {
					seq = m[i].seq + r.Intn(6) - 2
				}
				if r.Intn(20) == 0 {
					seq = someone()
				}
				answer := fmt.Sprint("answer ", step)[:r.Intn(9)]
				want, e, calls := m.once(client, seq, answer)
				once(t, s, client, seq, answer, want, e, calls)
				done[e]++
			case k < 17:
				var clients []int
				for range r.Intn(4) {
					clients = append(clients, someone())
				}
				s.Drop(clients...)
				m = slices.DeleteFunc(m, func(d did) bool { return slices.Contains(clients, d.client) })
			case k < 18:
				s = parsed(t, s.Bytes())
			default:
				if client := someone(); m.find(client) < 0 {
					none(t, s, client)
				}
			}
			m.same(t, what, s)
		}
	}
	if done[api.OK] < 10000 || done[api.ErrSeq] < 1000 || done[api.ErrArg] < 1000 {
		t.Errorf("the rows come to %v", done)
	}
}

// TestSameTables: tables to which the same came have the same bytes, in whichever order the clients did come.
func TestSameTables(t *testing.T) {
	want := ""
	for seed := range int64(50) {
		r := rand.New(rand.NewSource(seed))
		s := session.New()
		for _, client := range r.Perm(40) {
			once(t, s, client*client, client+1, fmt.Sprint(client), fmt.Sprint(client), api.OK, 1)
		}
		for _, client := range r.Perm(20) {
			s.Drop(4 * client * client)
		}
		got := string(s.Bytes())
		if want == "" {
			want = got
		}
		if got != want {
			t.Fatalf("P13.3: %x, not %x", got, want)
		}
	}
}
