package chunk_test

import (
	"fmt"
	"math"
	"math/rand"
	"testing"

	"echelon/api"
	"echelon/chunk"
)

// TestNew: a heap is empty, whatever its most.
func TestNew(t *testing.T) {
	for _, most := range []int{math.MinInt, -1, 0, 1, 5, math.MaxInt} {
		h := chunk.New(most)
		if h == nil {
			t.Fatalf("P7.2: New(%d) is none", most)
		}
		empty(t, "P7.3: a new heap", h)
		h.Drop()
		empty(t, "P7.3: a new heap, dropped", h)
	}
	a, b := chunk.New(5), chunk.New(5)
	takes(t, "P7.2", a, true, api.OK, part(mark(5, 1), "abcde", 0, 5))
	empty(t, "P7.3: another heap", b)
}

// TestMissing: the first byte that isn't there, wherever those are that are.
func TestMissing(t *testing.T) {
	m := mark(9, 4)
	for _, n := range []int{1, 2, 5, 63, 64, 65, 127, 128, 129, 320} {
		all := text(n)
		for _, size := range []int{1, 3, 10, 64, 100} {
			ps := cut(t, m, all, size)
			forth, back := chunk.New(n), chunk.New(n)
			for i, p := range ps {
				last := i == len(ps)-1
				takes(t, "P7.3: forth", forth, last, api.OK, p)
				takes(t, "P7.3: back", back, last, api.OK, ps[len(ps)-1-i])
				if !last {
					lacks(t, "P7.3: forth", forth, m, (i+1)*size)
					lacks(t, "P7.3: back", back, m, 0)
				}
			}
			whole(t, "P7.3: forth", forth, m, all)
			whole(t, "P7.3: back", back, m, all)
		}
		for at := 1; at < n; at++ {
			h := chunk.New(n)
			takes(t, "P7.3: nothing in front", h, false, api.OK, part(m, all, at, n))
			lacks(t, "P7.3: nothing in front", h, m, 0)
			if at > 1 {
				takes(t, "P7.3: but one byte", h, false, api.OK, part(m, all, 0, at-1))
				lacks(t, "P7.3: but one byte", h, m, at-1)
			}
			takes(t, "P7.3: the last one", h, true, api.OK, part(m, all, at-1, at))
			whole(t, "P7.3: the last one", h, m, all)
		}
	}
}

// TestNoBytes: of no bytes all are there, once the heap gathers them.
func TestNoBytes(t *testing.T) {
	for _, most := range []int{0, 1, math.MaxInt} {
		h := chunk.New(most)
		p := api.Piece{Mark: mark(3, 1), B: []byte{}}
		for range 2 {
			takes(t, "P7.2: no bytes", h, true, api.OK, p, p)
			whole(t, "P7.3: no bytes", h, p.Mark, "")
		}
		h.Drop()
		empty(t, "P7.3: no bytes, dropped", h)
	}
}

// TestDrop: a heap that was dropped gathers anew whatever comes, with the most that it has.
func TestDrop(t *testing.T) {
	for _, h := range []*chunk.Heap{chunk.New(5), elder(t, 5), done(t, 5)} {
		h.Drop()
		empty(t, "P7.3: Drop", h)
		takes(t, "P7.2: none, dropped", h, false, api.OK)
		takes(t, "P7.2: more than its most, dropped", h, false, api.ErrArg, part(mark(9, 9), "abcdef", 0, 1))
		takes(t, "P7.2: elder, dropped", h, false, api.OK, part(mark(1, 1), "vwxyz", 0, 4))
		lacks(t, "P7.3: elder, dropped", h, mark(1, 1), 4)
		h.Drop()
		h.Drop()
		empty(t, "P7.3: Drop", h)
		p := part(mark(1, 1), "vwxyz", 3, 5)
		p.B[0] = 'X'
		takes(t, "P7.2: other bytes, dropped", h, false, api.OK, p)
		h.Drop()
		takes(t, "P7.2: the same Index, dropped", h, true, api.OK, part(mark(5, 1), "qrstu", 0, 5))
		whole(t, "P7.3: the same Index, dropped", h, mark(5, 1), "qrstu")
	}
}

// orders calls with each order of the numbers below n.
func orders(n int, call func([]int)) {
	row := make([]int, n)
	for i := range row {
		row[i] = i
	}
	var place func(int)
	place = func(i int) {
		if i == n {
			call(row)
			return
		}
		for j := i; j < n; j++ {
			row[i], row[j] = row[j], row[i]
			place(i + 1)
			row[i], row[j] = row[j], row[i]
		}
	}
	place(0)
}

// TestOrders: the pieces of Cut, in each order, each of them once or twice, some with stale ones between them, make the bytes again at the last one that wasn't taken, and not ahead of it.
func TestOrders(t *testing.T) {
	m := mark(5, 2)
	for n := 1; n <= 6; n++ {
		for _, size := range []int{1, 2, 30, 64, 70} {
			all := text(n*size - size/2)
			ps := cut(t, m, all, size)
			orders(len(ps), func(row []int) {
				h := chunk.New(len(all))
				for i, j := range row {
					last := i == n-1
					takes(t, fmt.Sprintf("P7.4: %v of %d, at %d", row, size, i), h, last, api.OK, ps[j], ps[j], ps[row[0]])
					takes(t, "P7.4: a stale one", h, last, api.ErrStale, part(mark(4, 9), all, 0, 1))
				}
				whole(t, fmt.Sprintf("P7.4: %v of %d", row, size), h, m, all)
				takes(t, "P7.4: once more", h, true, api.OK, ps...)
				whole(t, "P7.4: once more", h, m, all)
			})
		}
	}
}

// TestOthers: others that go together with the pieces, cut as they may be, lie between them, and those of each Index that is newer make an end to what there was.
func TestOthers(t *testing.T) {
	r := rand.New(rand.NewSource(7))
	for range 300 {
		all := text(1 + r.Intn(400))
		h := chunk.New(400)
		for index := 1; index <= 3; index++ {
			m := mark(index, 1+r.Intn(3))
			ps := cut(t, m, all, 1+r.Intn(90))
			for range len(ps) {
				from := r.Intn(len(all))
				ps = append(ps, part(m, all, from, from+1+r.Intn(len(all)-from)), ps[r.Intn(len(ps))])
			}
			r.Shuffle(len(ps), func(i, j int) { ps[i], ps[j] = ps[j], ps[i] })
			there := make([]bool, len(all))
			for _, p := range ps {
				for i := range p.B {
					there[p.At+i] = true
				}
				first := 0
				for first < len(all) && there[first] {
					first++
				}
				takes(t, "P7.4", h, first == len(all), api.OK, p)
				if h.Missing() != first {
					t.Fatalf("P7.3: Missing: %d, not %d", h.Missing(), first)
				}
			}
			whole(t, "P7.4", h, m, all)
		}
	}
}

// TestFar: a heap has bytes as far out as its most lets it, and needs no more room than they do.
func TestFar(t *testing.T) {
	for _, total := range []int{1 << 40, math.MaxInt - 1, math.MaxInt} {
		h := chunk.New(math.MaxInt)
		m := mark(1, 1)
		piece := func(at int, b string) api.Piece {
			return api.Piece{Mark: m, Total: total, At: at, B: []byte(b)}
		}
		for _, at := range []int{total - 3, total / 2, total/2 + 63, 1 << 35, 100, 1} {
			takes(t, "P7.2: far out", h, false, api.OK, piece(at, "xyz"))
			lacks(t, "P7.3: far out", h, m, 0)
			takes(t, "P7.2: far out, again", h, false, api.OK, piece(at, "xy"), piece(at+1, "yz"))
			takes(t, "P7.2: far out, another one", h, false, api.ErrClash, piece(at+2, "y"))
		}
		takes(t, "P7.2: one behind the end", h, false, api.ErrArg, piece(total-2, "xyz"))
		takes(t, "P7.2: the first one", h, false, api.OK, piece(0, "x"))
		lacks(t, "P7.3: far out", h, m, 4)
	}
}

// TestMany: many pieces of one byte, in no order, are taken about as fast as in order.
func TestMany(t *testing.T) {
	b := make([]byte, 1<<18)
	r := rand.New(rand.NewSource(8))
	r.Read(b)
	m, all := mark(5, 1), string(b)
	ps := cut(t, m, all, 1)
	r.Shuffle(len(ps), func(i, j int) { ps[i], ps[j] = ps[j], ps[i] })
	h := chunk.New(len(b))
	for i, p := range ps {
		if got, e := h.Take(p); got != (i == len(ps)-1) || e != api.OK {
			t.Fatalf("P7.4: piece %d of %d: %v, %d", i, len(ps), got, e)
		}
	}
	if got, ok := h.Whole(); !ok || string(got) != all || h.Missing() != len(b) {
		t.Fatalf("P7.4: %d bytes, %v, Missing %d", len(got), ok, h.Missing())
	}
	takes(t, "P7.4: all again", h, true, api.OK, ps...)
}

// TestHeapMemory: Take neither changes nor keeps what it is handed, and Whole's bytes are new memory each time.
func TestHeapMemory(t *testing.T) {
	for _, n := range []int{1, 5, 64, 100, 130} {
		all := text(n)
		b := []byte(all + "spare")
		ps := []api.Piece{part(mark(5, 1), all, 0, n), part(mark(5, 1), all, 0, n)}
		ps[0].B = b[: (n+1)/2 : n+5]
		h := chunk.New(n)
		takes(t, "P7.2", h, n == 1, api.OK, ps[:1]...)
		ps[0].B = b[n/2 : n]
		ps[0].At = n / 2
		clear(b[:n/2])
		takes(t, "P7.2", h, true, api.OK, ps[:1]...)
		if string(b[n/2:]) != all[n/2:]+"spare" || ps[0].At != n/2 || !same(ps[1], part(mark(5, 1), all, 0, n)) {
			t.Fatalf("P7.4: Take changed what it was handed: %q, %v", b, ps)
		}
		clear(b)
		whole(t, "P7.4: what was handed in is changed", h, mark(5, 1), all)
		got, _ := h.Whole()
		clear(got[:cap(got)])
		whole(t, "P7.4: what was answered is changed", h, mark(5, 1), all)
		takes(t, "P7.4: what was answered is changed", h, true, api.OK, ps[1])
		got, _ = h.Whole()
		h.Drop()
		takes(t, "P7.2", h, true, api.OK, part(mark(5, 1), text(n + 1)[1:], 0, n))
		if string(got) != all {
			t.Fatalf("P7.4: what was answered became %q", got)
		}
	}
}
