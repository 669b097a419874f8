package chunk_test

import (
	"math"
	"testing"

	"echelon/api"
	"echelon/chunk"
)

// elder is a heap of so many bytes at most that gathers abcde at (5, 2), and has "b" and "d" of it.
func elder(t *testing.T, most int) *chunk.Heap {
	t.Helper()
	h := chunk.New(most)
	takes(t, "P7.2", h, false, api.OK, part(mark(5, 2), "abcde", 1, 2), part(mark(5, 2), "abcde", 3, 4))
	lacks(t, "P7.2", h, mark(5, 2), 0)
	return h
}

// done is a heap that has all of abcde at (5, 2).
func done(t *testing.T, most int) *chunk.Heap {
	t.Helper()
	h := chunk.New(most)
	takes(t, "P7.2", h, true, api.OK, part(mark(5, 2), "abcde", 0, 5))
	whole(t, "P7.2", h, mark(5, 2), "abcde")
	return h
}

// refused hands a piece to heaps of each standing: each answers the error, tells beside it whether all bytes are there, and is as it was.
func refused(t *testing.T, what string, most int, want api.Errno, p api.Piece) {
	t.Helper()
	if want == api.ErrArg {
		h := chunk.New(most)
		takes(t, what+", of an empty heap", h, false, want, p)
		empty(t, what, h)
	}
	if most < 5 {
		return
	}
	h := elder(t, most)
	takes(t, what+", of one that gathers", h, false, want, p)
	lacks(t, what, h, mark(5, 2), 0)
	takes(t, what+": what it lacks", h, true, api.OK, part(mark(5, 2), "abcde", 0, 1), part(mark(5, 2), "abcde", 2, 3), part(mark(5, 2), "abcde", 4, 5))
	takes(t, what+", of a whole one", h, true, want, p)
	whole(t, what, h, mark(5, 2), "abcde")
}

// TestTakeExample: the chapter's example.
func TestTakeExample(t *testing.T) {
	ps := cut(t, mark(5, 1), "abcde", 2)
	h := chunk.New(5)
	takes(t, "P7.2", h, false, api.OK, ps[2], ps[0])
	lacks(t, "P7.3", h, mark(5, 1), 2)
	takes(t, "P7.2", h, true, api.OK, ps[1])
	whole(t, "P7.3", h, mark(5, 1), "abcde")
}

// TestTakeMark: of a piece whose Index or Term may not be it is ErrArg.
func TestTakeMark(t *testing.T) {
	for _, index := range numbers() {
		for _, term := range numbers() {
			p := part(mark(index, term), "xyz", 0, 2)
			if !may(index) || !may(term) {
				refused(t, "P7.2: a Mark that may not be", 9, api.ErrArg, p)
				continue
			}
			h := chunk.New(9)
			takes(t, "P7.2: a Mark that may be", h, false, api.OK, p)
			lacks(t, "P7.2: a Mark that may be", h, p.Mark, 2)
		}
	}
}

// TestTakeTotal: a Total may be from 0 up to the heap's most; of a heap whose most is below 0 none may be.
func TestTakeTotal(t *testing.T) {
	for _, most := range []int{math.MinInt, -1, 0, 1, 5, 64, 1 << 20, math.MaxInt - 1, math.MaxInt} {
		for _, total := range []int{math.MinInt, -1, 0, 1, 2, 5, most - 1, most, most + 1, math.MaxInt} {
			p := api.Piece{Mark: mark(6, 1), Total: total}
			if total != 0 {
				p.B, p.Sum = []byte("x"), sumOf("x")
			}
			if total < 0 || total > most {
				refused(t, "P7.2: a Total that may not be", most, api.ErrArg, p)
				continue
			}
			h := chunk.New(most)
			takes(t, "P7.2: a Total that may be", h, total < 2, api.OK, p)
			if total >= 2 {
				lacks(t, "P7.2: a Total that may be", h, mark(6, 1), 1)
			}
		}
	}
}

// TestTakePlace: a piece may begin at 0 and later, and end at its Total and ahead of it; it has a byte at least, and none where its Total is 0.
func TestTakePlace(t *testing.T) {
	for _, total := range []int{0, 1, 2, 5, 9} {
		for _, at := range []int{math.MinInt, math.MinInt + 1, -2, -1, 0, 1, 2, 4, 5, 6, 9, 10, math.MaxInt - 2, math.MaxInt - 1, math.MaxInt} {
			for _, n := range []int{0, 1, 2, 3, 5, 6, 9, 10} {
				p := api.Piece{Mark: mark(6, 1), Total: total, At: at, B: []byte(text(n))}
				fits := at >= 0 && at <= total && n <= total-at
				if (n == 0) != (total == 0) || !fits {
					refused(t, "P7.2: a place that may not be", 9, api.ErrArg, p)
					continue
				}
				h := chunk.New(9)
				p.Sum = sumOf(text(n))
				takes(t, "P7.2: a place that may be", h, n == total, api.OK, p)
				if n < total && at > 0 {
					lacks(t, "P7.2: a place that may be", h, mark(6, 1), 0)
				} else if n < total {
					lacks(t, "P7.2: a place that may be", h, mark(6, 1), n)
				} else {
					whole(t, "P7.2: a place that may be", h, mark(6, 1), text(n))
				}
			}
		}
	}
}

// TestTakeFar: a piece whose end is above the ints isn't right, whatever the heap's most; nor is one that isn't right taken for a stale one.
func TestTakeFar(t *testing.T) {
	for _, p := range []api.Piece{
		{Mark: mark(6, 1), Total: math.MaxInt, At: math.MaxInt, B: []byte("x")},
		{Mark: mark(6, 1), Total: math.MaxInt, At: math.MaxInt - 1, B: []byte("xy")},
		{Mark: mark(6, 1), Total: 5, At: math.MaxInt, B: []byte("x")},
		{Mark: mark(6, 1), Total: math.MaxInt, At: math.MinInt, B: []byte("x")},
		{Mark: mark(6, 1), Total: math.MaxInt},
		{Mark: mark(6, 1), Total: math.MinInt, At: math.MaxInt},
		{Mark: mark(6, 1), Total: -1, At: -2, B: []byte("x")},
		{Mark: mark(1, 1), Total: 5, At: 5, B: []byte("x")},
		{Mark: mark(5, 1), Total: 5, At: 5, B: []byte("x")},
		{Mark: mark(5, 2), Sum: sumOf("abcde"), Total: 5, At: 4, B: []byte("xy")},
		{Mark: mark(5, 2), Sum: sumOf("abcde"), Total: 5, At: 1},
		{Mark: mark(1, 1), Total: 0, B: []byte("x")},
	} {
		refused(t, "P7.2: not right", math.MaxInt, api.ErrArg, p)
	}
}

// TestTakeStale: a piece of a smaller Index, or of the same one that tells another Term, Sum or Total, is stale, also where its bytes clash.
func TestTakeStale(t *testing.T) {
	fits := part(mark(5, 2), "abcde", 1, 4)
	for _, b := range []string{"bcd", "bXd", "XXX"} {
		for _, change := range []func(p *api.Piece){
			func(p *api.Piece) { p.Index = 4 },
			func(p *api.Piece) { p.Index = 1 },
			func(p *api.Piece) { p.Index, p.Term = 4, 9 },
			func(p *api.Piece) { p.Term = 1 },
			func(p *api.Piece) { p.Term = 3 },
			func(p *api.Piece) { p.Term = top - 1 },
			func(p *api.Piece) { p.Sum++ },
			func(p *api.Piece) { p.Sum = 0 },
			func(p *api.Piece) { p.Total = 4 },
			func(p *api.Piece) { p.Total = 6 },
			func(p *api.Piece) { p.Total, p.At, p.B = 3, 0, []byte(b) },
			func(p *api.Piece) { p.Total, p.At, p.B = 0, 0, nil },
			func(p *api.Piece) { p.Term, p.Sum, p.Total = 3, 7, 9 },
		} {
			p := fits
			p.B = []byte(b)
			change(&p)
			refused(t, "P7.2: stale", 9, api.ErrStale, p)
		}
	}
}

// TestTakeNewer: a piece of a greater Index empties the heap, whatever it tells else, and whatever the heap has.
func TestTakeNewer(t *testing.T) {
	for _, h := range []func(*testing.T, int) *chunk.Heap{elder, done} {
		for _, m := range []api.Mark{mark(6, 2), mark(6, 1), mark(6, 3), mark(top-1, 1)} {
			for _, all := range []string{"abcde", "vwxyz", "xyz", "vwxyz1234"} {
				h := h(t, 9)
				takes(t, "P7.2: newer", h, false, api.OK, part(m, all, 1, 2))
				lacks(t, "P7.2: newer", h, m, 0)
				takes(t, "P7.2: the elder one", h, false, api.ErrStale, part(mark(5, 2), "abcde", 0, 1))
				takes(t, "P7.2: newer", h, false, api.OK, part(m, all, 0, 1))
				lacks(t, "P7.2: newer", h, m, 2)
				takes(t, "P7.2: newer", h, true, api.OK, part(m, all, 2, len(all)))
				whole(t, "P7.2: newer", h, m, all)
			}
			h := h(t, 9)
			takes(t, "P7.2: newer, of no bytes", h, true, api.OK, part(m, "", 0, 0))
			whole(t, "P7.2: newer, of no bytes", h, m, "")
		}
	}
}

// TestTakeClash: a piece may lie on bytes that are there, if they are the same; else it changes nothing, also where it has none of them.
func TestTakeClash(t *testing.T) {
	m, all := mark(5, 1), text(200)
	for _, c := range [][2]int{{0, 3}, {10, 11}, {60, 70}, {63, 64}, {64, 65}, {0, 199}, {64, 128}, {1, 200}, {127, 200}, {62, 131}} {
		for from := 0; from < 200; from += 1 + from%7 {
			for _, to := range []int{from + 1, from + 2, from + 64, from + 65, from + 130, 199, 200} {
				if to > 200 || to <= from {
					continue
				}
				h := chunk.New(200)
				takes(t, "P7.2", h, false, api.OK, part(m, all, c[0], c[1]))
				first := h.Missing()
				for _, at := range []int{max(from, c[0]), min(to, c[1]) - 1} {
					if at < from || at >= to || at < c[0] || at >= c[1] {
						continue
					}
					p := part(m, all, from, to)
					p.B[at-from]++
					takes(t, "P7.2: other bytes", h, false, api.ErrClash, p)
					lacks(t, "P7.2: other bytes", h, m, first)
				}
				// Had the other bytes been laid, these would clash, or their sum be wrong.
				both := from <= c[1] && c[0] <= to && min(from, c[0]) == 0 && max(to, c[1]) == 200
				takes(t, "P7.2: the same bytes", h, both, api.OK, part(m, all, from, to))
				takes(t, "P7.2: all of it", h, true, api.OK, part(m, all, 0, 200))
				whole(t, "P7.2: all of it", h, m, all)
			}
		}
	}
}

// TestTakeClashWhole: of a heap that has all bytes each other byte clashes, and changes nothing.
func TestTakeClashWhole(t *testing.T) {
	for at := range 5 {
		for bit := range 8 {
			p := part(mark(5, 2), "abcde", 0, 5)
			p.B[at] ^= 1 << bit
			h := done(t, 5)
			takes(t, "P7.2: another byte", h, true, api.ErrClash, p)
			p.At, p.B = at, p.B[at:at+1]
			takes(t, "P7.2: another byte alone", h, true, api.ErrClash, p)
			whole(t, "P7.2: another byte", h, mark(5, 2), "abcde")
		}
	}
}

// TestTakeZeros: a byte 0 that is there isn't one that isn't there.
func TestTakeZeros(t *testing.T) {
	m, all := mark(1, 1), "\x00\x00\x01"
	h := chunk.New(3)
	takes(t, "P7.2", h, false, api.OK, part(m, all, 0, 1))
	lacks(t, "P7.3", h, m, 1)
	p := part(m, all, 0, 1)
	p.B[0] = 1
	takes(t, "P7.2: another byte than 0", h, false, api.ErrClash, p)
	takes(t, "P7.2", h, false, api.OK, part(m, all, 2, 3))
	lacks(t, "P7.3", h, m, 1)
	takes(t, "P7.2", h, true, api.OK, part(m, all, 1, 2))
	whole(t, "P7.3", h, m, all)
}

// TestTakeSum: a wrong Sum is found once all bytes are there, and not ahead of that; the heap gathers nothing then, and takes what is elder.
func TestTakeSum(t *testing.T) {
	for _, all := range []string{"", "x", "abcde", text(64), text(65), text(300)} {
		for _, wrong := range []uint32{1, 1 << 31, 0xffffffff, sumOf(all) ^ 0x5a5a5a5a} {
			for _, size := range []int{1, 2, 64, 999} {
				h := chunk.New(999)
				ps := cut(t, mark(5, 1), all, size)
				for i := range ps {
					ps[i].Sum ^= wrong
					if i < len(ps)-1 {
						takes(t, "P7.2: not all of them", h, false, api.OK, ps[i])
						lacks(t, "P7.2: not all of them", h, mark(5, 1), (i+1)*size)
						continue
					}
					takes(t, "P7.2: a wrong Sum", h, false, api.ErrSum, ps[i])
					empty(t, "P7.2: a wrong Sum", h)
				}
				takes(t, "P7.2: behind it", h, all == "", api.OK, part(mark(4, 1), all+all, 0, len(all)))
				h.Drop()
				takes(t, "P7.2: the same with the right one", h, true, api.OK, cut(t, mark(5, 1), all, size)...)
				whole(t, "P7.2: the same with the right one", h, mark(5, 1), all)
			}
		}
	}
}

// TestTakeSumBytes: bytes that clash with none, but aren't those that were cut, come to be a wrong sum.
func TestTakeSumBytes(t *testing.T) {
	for _, h := range []*chunk.Heap{chunk.New(5), elder(t, 5), done(t, 5)} {
		ps := cut(t, mark(6, 1), "vwxyz", 2)
		ps[1].B[0] = 'w'
		takes(t, "P7.2: a byte was turned", h, false, api.ErrSum, ps...)
		empty(t, "P7.2: a byte was turned", h)
	}
}

// TestTakeSeveral: pieces are taken one by one, up to the one that has an error: those ahead of it stay taken, and those behind it are not.
func TestTakeSeveral(t *testing.T) {
	m := mark(5, 2)
	a, c, e := part(m, "abcde", 0, 1), part(m, "abcde", 2, 3), part(m, "abcde", 4, 5)
	clash := part(m, "abcde", 1, 2)
	clash.B[0] = 'X'
	for _, x := range []struct {
		want api.Errno
		p    api.Piece
	}{
		{api.ErrArg, api.Piece{}},
		{api.ErrArg, part(m, "abcde", 5, 5)},
		{api.ErrStale, part(mark(4, 2), "abcde", 0, 1)},
		{api.ErrStale, part(mark(5, 3), "abcde", 0, 1)},
		{api.ErrClash, clash},
	} {
		h := elder(t, 5)
		takes(t, "P7.2: one in the middle", h, false, x.want, a, x.p, c, e)
		lacks(t, "P7.2: one in the middle", h, m, 2)
		takes(t, "P7.2: one at the end", h, true, x.want, c, e, x.p)
		whole(t, "P7.2: one at the end", h, m, "abcde")
		h = elder(t, 5)
		takes(t, "P7.2: one in front", h, false, x.want, x.p, a, c, e)
		lacks(t, "P7.2: one in front", h, m, 0)
		newer := part(mark(6, 1), "vwxyz", 0, 2)
		h = elder(t, 5)
		takes(t, "P7.2: one ahead of a newer one", h, false, x.want, c, x.p, newer)
		lacks(t, "P7.2: one ahead of a newer one", h, m, 0)
	}
	wrong := part(mark(6, 1), "v", 0, 1)
	wrong.Sum++
	h := elder(t, 5)
	takes(t, "P7.2: a wrong Sum in the middle", h, false, api.ErrSum, a, wrong, c, e)
	empty(t, "P7.2: a wrong Sum in the middle", h)
	h = elder(t, 5)
	takes(t, "P7.2: whole, and then newer", h, false, api.OK, a, c, e, part(mark(6, 1), "vwxyz", 0, 2))
	lacks(t, "P7.2: whole, and then newer", h, mark(6, 1), 2)
	takes(t, "P7.2: and whole", h, true, api.OK, part(mark(6, 1), "vwxyz", 1, 5), part(mark(6, 1), "vwxyz", 4, 5))
	whole(t, "P7.2: and whole", h, mark(6, 1), "vwxyz")
}

// TestTakeNone: no pieces change nothing, and all bytes are there or not.
func TestTakeNone(t *testing.T) {
	h := chunk.New(5)
	takes(t, "P7.2: of an empty heap", h, false, api.OK)
	empty(t, "P7.2: of an empty heap", h)
	h = elder(t, 5)
	takes(t, "P7.2: of one that gathers", h, false, api.OK)
	lacks(t, "P7.2: of one that gathers", h, mark(5, 2), 0)
	h = done(t, 5)
	takes(t, "P7.2: of a whole one", h, true, api.OK, []api.Piece{}...)
	whole(t, "P7.2: of a whole one", h, mark(5, 2), "abcde")
}
