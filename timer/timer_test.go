package timer_test

import (
	"fmt"
	"math"
	"math/big"
	"math/rand"
	"slices"
	"testing"

	"echelon/api"
	"echelon/timer"
)

// TestSpan: the example, and each edge of a least and of a draw.
func TestSpan(t *testing.T) {
	for _, x := range []struct {
		least int
		draw  uint64
		want  int
	}{
		{10, 37, 17}, {2, 5, 3}, {1, 0, 1}, {1, 5, 1}, {1, math.MaxUint64, 1}, {7, math.MaxUint64, 8}, {10, math.MaxUint64, 15}, {10, 1 << 63, 18}, {2, 1 << 63, 2}, {2, math.MaxUint64, 3},
		{5, 0, 5}, {5, 4, 9}, {5, 5, 5}, {5, 6, 6}, {5, 9, 9}, {5, 10, 5},
		{most, 0, most}, {most, most - 1, 2*most - 1}, {most, most, most}, {most, 1 << 63, most}, {most, math.MaxUint64, 2*most - 1}, {most - 1, most - 1, most - 1}, {most - 1, most - 2, 2*most - 3}, {most - 1, math.MaxUint64, most + 2},
		{most + 1, 0, 0}, {most + 1, 5, 0}, {0, 0, 0}, {0, 7, 0}, {-1, 7, 0}, {math.MinInt, math.MaxUint64, 0}, {math.MaxInt, math.MaxUint64, 0}, {math.MaxInt, 0, 0},
	} {
		if got := timer.Span(x.least, x.draw); got != x.want {
			t.Errorf("P10.1: Span(%d, %d): %d, not %d", x.least, x.draw, got, x.want)
		}
	}
	for _, least := range wrong() {
		for _, draw := range draws(least) {
			if got := timer.Span(least, draw); got != 0 {
				t.Errorf("P10.1: Span(%d, %d): %d, not 0", least, draw, got)
			}
		}
	}
}

// slowSpan is a span by numbers of any length.
func slowSpan(least int, draw uint64) int {
	n := big.NewInt(int64(least))
	rest := new(big.Int).Mod(new(big.Int).SetUint64(draw), n)
	return int(rest.Add(rest, n).Int64())
}

// TestSpanModel: each least, and those at the edges, of draws small, great and drawn: from the least to one below its double.
func TestSpanModel(t *testing.T) {
	r := rand.New(rand.NewSource(1))
	same := func(least int, draw uint64) {
		got := timer.Span(least, draw)
		if got != slowSpan(least, draw) || got < least || got > 2*least-1 {
			t.Fatalf("P10.1: Span(%d, %d): %d, not %d", least, draw, got, slowSpan(least, draw))
		}
	}
	for least := 1; least <= 60; least++ {
		for draw := range uint64(200) {
			same(least, draw)
			same(least, math.MaxUint64-draw)
		}
	}
	for _, least := range leasts() {
		for _, draw := range draws(least) {
			same(least, draw)
		}
	}
	for range 20000 {
		same(1+r.Intn(most), r.Uint64())
	}
}

// TestApart: of none, of one, of several with the same rest and with others.
func TestApart(t *testing.T) {
	for _, x := range []struct {
		least int
		draws []uint64
		want  bool
	}{
		{5, []uint64{0, 1, 7}, true}, {5, []uint64{1, 6}, false}, {5, nil, true}, {5, []uint64{}, true}, {5, []uint64{3}, true}, {5, []uint64{3, 3}, false}, {5, []uint64{3, 4}, true}, {5, []uint64{3, 8}, false},
		{5, []uint64{0, 1, 2, 3, 4}, true}, {5, []uint64{4, 3, 2, 1, 0}, true}, {5, []uint64{0, 1, 2, 3, 4, 5}, false}, {5, []uint64{1, 2, 3, 1}, false}, {5, []uint64{2, 1, 1, 3}, false}, {5, []uint64{1, 2, 3, 11}, false}, {5, []uint64{16, 2, 3, 1}, false},
		{1, []uint64{9}, true}, {1, []uint64{0, 1}, false}, {1, []uint64{0, math.MaxUint64}, false}, {2, []uint64{math.MaxUint64, 0}, true}, {2, []uint64{math.MaxUint64, 1}, false}, {2, []uint64{1 << 63, 0}, false}, {2, []uint64{1 << 63, 1}, true},
		{most, []uint64{0, most}, false}, {most, []uint64{0, most - 1}, true}, {most, []uint64{1 << 32, 1 << 31}, false}, {most, []uint64{math.MaxUint64, most - 1}, false}, {most, []uint64{math.MaxUint64, most}, true}, {most - 1, []uint64{0, most - 1}, false}, {most - 1, []uint64{0, most}, true},
		{most + 1, []uint64{0, 1}, false}, {0, []uint64{1, 2}, false}, {-1, []uint64{1, 2, 3}, false}, {math.MaxInt, []uint64{0, 1 << 63}, false}, {math.MinInt, []uint64{0, 1}, false},
	} {
		if got := timer.Apart(x.least, x.draws...); got != x.want {
			t.Errorf("P10.1: Apart(%d, %v): %v", x.least, x.draws, got)
		}
	}
	for _, least := range wrong() {
		if !timer.Apart(least) || !timer.Apart(least, 3) || timer.Apart(least, 3, 4) || timer.Apart(least, 3, 3) || timer.Apart(least, 0, 1, 2, 3) {
			t.Errorf("P10.1: Apart(%d, ..): all spans are 0", least)
		}
	}
}

// slowApart looks at each two draws.
func slowApart(least int, draws []uint64) bool {
	for i := range draws {
		for j := range i {
			if draws[i]%uint64(least) == draws[j]%uint64(least) {
				return false
			}
		}
	}
	return true
}

// TestApartModel: drawn draws, few and many, and what is handed in stays as it is, its spare room included.
func TestApartModel(t *testing.T) {
	r := rand.New(rand.NewSource(2))
	seen := map[bool]int{}
	for range 20000 {
		least := 1 + r.Intn(40)
		all := make([]uint64, 12)
		for i := range all {
			all[i] = uint64(r.Intn(120))
			if r.Intn(4) == 0 {
				all[i] = r.Uint64()
			}
		}
		was := slices.Clone(all)
		handed := all[:r.Intn(10)]
		got := timer.Apart(least, handed...)
		if got != slowApart(least, handed) {
			t.Fatalf("P10.1: Apart(%d, %v): %v", least, handed, got)
		}
		if !slices.Equal(all, was) {
			t.Fatalf("P10.1: Apart(%d, %v): what was handed in is %v", least, was, all)
		}
		seen[got]++
	}
	if seen[true] < 1000 || seen[false] < 1000 {
		t.Errorf("drawn too one-sidedly: %v", seen)
	}
}

// TestApartMany: it comes to an end of very many draws, too.
func TestApartMany(t *testing.T) {
	const many = 1 << 19
	var ds []uint64
	for i := range uint64(many) {
		ds = append(ds, 3*(many-i))
	}
	if !timer.Apart(most, ds...) || timer.Apart(most, append(ds, 3)...) || timer.Apart(many-1, ds...) {
		t.Error("P10.1: Apart of very many")
	}
}

// TestNew: of a least that may be a timer, set by the draw; else nil and ErrArg.
func TestNew(t *testing.T) {
	for _, least := range wrong() {
		for _, draw := range draws(least) {
			if k, e := timer.New(least, draw); k != nil || e != api.ErrArg {
				t.Errorf("P10.2: New(%d, %d): %v, %v", least, draw, k, e)
			}
		}
	}
	for _, least := range leasts() {
		for _, draw := range draws(least) {
			if k := made(t, least, draw); k.Left() != slowSpan(least, draw) {
				t.Errorf("P10.2: New(%d, %d): %d are left, not %d", least, draw, k.Left(), slowSpan(least, draw))
			}
		}
	}
}

// TestTick: it fires by the tick by which its span's have come, not ahead of it, and by each one from then on.
func TestTick(t *testing.T) {
	fires(t, "the chapter's", made(t, 2, 5), 3, 1)
	for least := 1; least <= 12; least++ {
		for _, draw := range draws(least) {
			fires(t, fmt.Sprintf("New(%d, %d)", least, draw), made(t, least, draw), slowSpan(least, draw), 30)
		}
	}
	fires(t, "a long one", made(t, 1<<16, 1<<16-1), 1<<17-1, 1<<17)
	k := made(t, most, math.MaxUint64)
	for i := range 1000 {
		if k.Tick() || k.Left() != 2*most-2-i {
			t.Fatalf("P10.2: the longest: tick %d: %d are left", i+1, k.Left())
		}
	}
}

// TestSet: set anew ahead of its tick, at it and behind it, it fires behind that draw's whole span.
func TestSet(t *testing.T) {
	for least := 1; least <= 6; least++ {
		for first := range uint64(least) {
			span := slowSpan(least, first)
			for ticks := range span + 4 {
				for _, second := range draws(least) {
					k := made(t, least, first)
					for range ticks {
						k.Tick()
					}
					k.Set(second)
					fires(t, fmt.Sprintf("New(%d, %d), %d ticks, Set(%d)", least, first, ticks, second), k, slowSpan(least, second), 3)
				}
			}
		}
	}
	k := made(t, most, 0)
	k.Set(math.MaxUint64)
	if k.Left() != 2*most-1 {
		t.Errorf("P10.2: the greatest least set anew: %d are left", k.Left())
	}
}

// TestTimerModel: long rows of calls on two timers, neither of which tells of the other.
func TestTimerModel(t *testing.T) {
	fired := 0
	for seed := range int64(600) {
		r := rand.New(rand.NewSource(seed))
		var ks [2]*timer.Timer
		var leasts, lefts [2]int
		for i := range ks {
			leasts[i] = 1 + r.Intn(9)
			draw := r.Uint64()
			ks[i], lefts[i] = made(t, leasts[i], draw), slowSpan(leasts[i], draw)
		}
		for step := range 200 {
			i := r.Intn(2)
			if r.Intn(12) == 0 {
				draw := r.Uint64() >> r.Intn(64)
				ks[i].Set(draw)
				lefts[i] = slowSpan(leasts[i], draw)
			} else {
				lefts[i] = max(lefts[i]-1, 0)
				if got := ks[i].Tick(); got != (lefts[i] == 0) {
					t.Fatalf("P10.2: seed %d, step %d: tick: %v, and %d are to be left", seed, step, got, lefts[i])
				}
			}
			for i, k := range ks {
				if k.Left() != lefts[i] {
					t.Fatalf("P10.2: seed %d, step %d: %d are left, not %d", seed, step, k.Left(), lefts[i])
				}
				if lefts[i] == 0 {
					fired++
				}
			}
		}
	}
	if fired < 1000 {
		t.Errorf("fired too seldom: %d", fired)
	}
}
