package vault_test

import (
	"fmt"
	"slices"
	"testing"

	"echelon/api"
	"echelon/disk"
	"echelon/vault"
)

// someCalls are calls of a vault that is based, or hasn't a snapshot and entries 1 to 6 of the same terms.
func someCalls() []call {
	var out []call
	for _, s := range []api.State{state(4, 1), state(5, -1)} {
		for _, c := range []call{
			{},
			{es: run(7, 4)},
			{es: run(7, 5, 5, 6, 7)},
			{from: 6},
			{from: 5},
			{from: 3},
			{from: 1},
			{from: 2, es: run(2, 7)},
			{from: 7, es: run(7, 5)},
			{from: 6, es: run(6, 5, 5)},
			{from: 5, es: run(5, 3, 4, 5)},
			{from: 3, es: run(3, 3)},
			{from: 3, es: run(3, 3, 3, 3, 3, 3, 3)},
			{from: 5, es: run(5, 1)},
		} {
			out = append(out, call{what: "k", s: s, from: c.from, es: c.es})
		}
	}
	for _, x := range []api.Snap{snap(3, 1), snap(4, 2), snap(5, 2), snap(6, 4), snap(4, 1), snap(4, 3), snap(6, 5), snap(7, 4), snap(7, 1), snap(20, 9)} {
		out = append(out, call{what: "c", x: x}, call{what: "i", x: x})
	}
	return out
}

// stage is which of the stages a vault is in, from one of them on; -1, if it is in none.
func stage(v *vault.Vault, stages []plain, from int) int {
	for i := from; i < len(stages); i++ {
		if differs(v, stages[i]) == "" {
			return i
		}
	}
	return -1
}

// TestStopAndCrash: each call, with each stop, and crashes behind it: what is opened anew is in a stage of the call, the later the stop the later that; behind an OK in the last one. Whatever it has then stays, and it goes on.
func TestStopAndCrash(t *testing.T) {
	for _, p := range []plain{based(), {state(4, 1), api.Snap{}, run(1, 1, 1, 1, 2, 2, 4)}} {
		for _, c := range someCalls() {
			for _, size := range []int{1, 18, 35, 999} {
				for _, keep := range []int{0, 1, 5, 12, 16, 17, 18, 34, 50, 999} {
					sweep(t, p, c, size, keep)
				}
			}
		}
	}
}

// sweep lets one call be stopped at each of its calls of the disk.
func sweep(t *testing.T, p plain, c call, size, keep int) {
	t.Helper()
	stages, whole := p.stages(c)
	at := 0
	for n := 0; ; n++ {
		what := fmt.Sprintf("P11.4: %v, then %v: size %d, Stop(%d), Crash(%d ..)", p, c, size, n, keep)
		v, d := opened(t, size, p)
		d.Stop(n)
		e := does(v, c)
		if e != api.ErrStop {
			is(t, what, e, whole)
			at = len(stages) - 1
		}
		keeps := slices.Repeat([]int{keep}, 20)
		d.Crash(keeps...)
		v = open(t, what, d, size)
		if at = stage(v, stages, at); at < 0 {
			t.Fatalf("%s: %d; it has %v", what, e, has(v))
		}
		holds(t, what, v, stages[at])
		goesOn(t, what, v, d, size, stages[at])
		if e != api.ErrStop {
			return
		}
	}
}

// goesOn lets a vault keep an entry more, and put a snapshot of it, each of which outlives a crash.
func goesOn(t *testing.T, what string, v *vault.Vault, d *disk.Disk, size int, p plain) {
	t.Helper()
	v = outlives(t, what+": it stays", d, size, p)
	next := at(p.last().Index+1, 11)
	is(t, what+": and on", v.Keep(state(11, 0), 0, next), api.OK)
	p = plain{state(11, 0), p.snap, append(slices.Clone(p.log), next)}
	v = outlives(t, what+": and on", d, size, p)
	is(t, what+": and on", v.Compact(snap(next.Index, 11)), api.OK)
	outlives(t, what+": and on", d, size, plain{p.state, snap(next.Index, 11), nil})
}

// TestStopInOpen: behind a stop within a call, others within the openings that follow: what comes of it is what would have come without them.
func TestStopInOpen(t *testing.T) {
	for _, c := range someCalls() {
		for _, size := range []int{1, 35, 999} {
			for n := range 9 {
				for _, keep := range []int{0, 5, 17, 20, 999} {
					once := crashed(t, c, size, n, keep)
					want := has(open(t, "P11.4", once, size))
					for m := range 4 {
						d := crashed(t, c, size, n, keep)
						what := fmt.Sprintf("P11.4: %v: size %d, Stop(%d), Crash(%d ..), Stop(%d) in Open, and then less", c, size, n, keep, m)
						for again := m; again >= 0; again-- {
							d.Stop(again)
							if v, e := vault.Open(d, size); (v == nil) != (e == api.ErrStop) || v != nil && e != api.OK {
								t.Fatalf("%s: %v, %d", what, v, e)
							}
							d.Crash(keep, keep)
						}
						v := open(t, what, d, size)
						holds(t, what, v, want)
						goesOn(t, what, v, d, size, want)
					}
				}
			}
		}
	}
}

// crashed is the disk of a vault that was based, behind a call with a stop, and a crash.
func crashed(t *testing.T, c call, size, n, keep int) *disk.Disk {
	t.Helper()
	v, d := opened(t, size, based())
	d.Stop(n)
	if e := does(v, c); e == api.ErrFull {
		t.Fatalf("P11.2: %v: %d", c, e)
	}
	d.Crash(slices.Repeat([]int{keep}, 20)...)
	return d
}

// TestBehindStop: behind an ErrStop, and behind a crash, all calls of a vault that isn't opened anew end.
func TestBehindStop(t *testing.T) {
	for _, first := range someCalls() {
		for n := range 5 {
			for _, crash := range []bool{false, true} {
				v, d := opened(t, 18, based())
				d.Stop(n)
				does(v, first)
				if crash {
					d.Crash(9, 9, 9)
				}
				for _, c := range someCalls() {
					does(v, c)
				}
				has(v)
				d.Stop(-1)
				for _, c := range someCalls() {
					does(v, c)
				}
				has(v)
				if _, e := vault.Open(d, 18); e != api.OK {
					t.Fatalf("P11.1: behind all of it: %d", e)
				}
			}
		}
	}
}
