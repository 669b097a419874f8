package vault_test

import (
	"bytes"
	"slices"
	"testing"

	"echelon/api"
)

// spare is bytes with room behind them, in which there is something.
func spare(s string) []byte {
	return append([]byte(s), "spare"...)[:len(s)]
}

// whole is bytes with all of their room.
func whole(b []byte) string { return string(b[:cap(b)]) }

// TestHandedIn: what is handed in isn't changed, its spare room neither, and isn't kept: what becomes of it then changes nothing.
func TestHandedIn(t *testing.T) {
	d := space(t, 9999)
	v := open(t, "P11.1", d, 35)
	body := spare("body")
	all := append(make([]api.Entry, 0, 9), api.Entry{Index: 1, Term: 1, Body: body}, at(2, 1), at(9, 9))
	es := all[:2]
	want := slices.Clone(all)
	bytesWere := whole(body)
	is(t, "P11.2", v.Keep(state(1, 1), 0, es...), api.OK)
	is(t, "P11.2: refused", v.Keep(state(1, 1), 0, es...), api.ErrArg)
	if !slices.EqualFunc(all, want, sameEntry) || whole(body) != bytesWere {
		t.Errorf("rule 5: what Keep was handed is %v, %q", all, whole(body))
	}
	p := plain{state(1, 1), api.Snap{}, []api.Entry{{Index: 1, Term: 1, Body: []byte("body")}, at(2, 1)}}
	es[1].Term, es[0].Index = 7, 7
	clear(body)
	clear(es[1].Body)
	holds(t, "rule 5: Keep", v, p)
	for _, put := range []func(api.Snap) api.Errno{v.Compact, v.Install} {
		x := api.Snap{Mark: v.Mark(), Conf: spare("conf"), Body: spare("text")}
		x.Index, x.Term = x.Index+1, 1
		conf, text := whole(x.Conf), whole(x.Body)
		is(t, "P11.3", put(x), api.OK)
		is(t, "P11.3: refused", put(x), api.ErrArg)
		if whole(x.Conf) != conf || whole(x.Body) != text {
			t.Errorf("rule 5: what was put is %q, %q", whole(x.Conf), whole(x.Body))
		}
		clear(x.Conf)
		clear(x.Body)
		p = plain{p.state, api.Snap{Mark: x.Mark, Conf: []byte("conf"), Body: []byte("text")}, p.log[1:]}
		holds(t, "rule 5: put", v, p)
	}
	outlives(t, "rule 5", d, 35, p)
}

// TestAnswers: what a vault tells is new memory.
func TestAnswers(t *testing.T) {
	v, d := opened(t, 35, based())
	for range 2 {
		x, _ := v.Newest()
		clear(x.Conf)
		clear(x.Body)
		e, _ := v.At(3)
		clear(e.Body)
		for _, e := range v.From(3, 9) {
			clear(e.Body)
		}
		holds(t, "rule 5: answers", v, based())
	}
	is(t, "P11.3", v.Compact(snap(3, 1)), api.OK)
	x, _ := v.Newest()
	y, _ := v.Newest()
	x.Body[0]++
	if bytes.Equal(x.Body, y.Body) {
		t.Errorf("rule 5: two answers share their bytes")
	}
	p := based()
	outlives(t, "rule 5: answers", d, 35, plain{p.state, snap(3, 1), p.log[1:]})
}

// TestTwoVaults: a vault has nothing of another one's.
func TestTwoVaults(t *testing.T) {
	a, b := space(t, 999), space(t, 999)
	v, w := open(t, "P11.1", a, 35), open(t, "P11.1", b, 1)
	is(t, "P11.2", v.Keep(state(3, 1), 0, run(1, 1, 2)...), api.OK)
	is(t, "P11.3", v.Compact(snap(1, 1)), api.OK)
	holds(t, "rule 7: another one's", w, plain{state: nobody})
	is(t, "P11.2", w.Keep(state(5, 0), 0, run(1, 4)...), api.OK)
	holds(t, "rule 7: another one's", v, plain{state(3, 1), snap(1, 1), run(2, 2)})
	outlives(t, "rule 7: another one's", a, 35, plain{state(3, 1), snap(1, 1), run(2, 2)})
	outlives(t, "rule 7: another one's", b, 1, plain{state(5, 0), api.Snap{}, run(1, 4)})
}
