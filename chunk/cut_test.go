package chunk_test

import (
	"bytes"
	"math"
	"slices"
	"testing"

	"echelon/api"
	"echelon/chunk"
)

// TestCutExample: the chapter's example.
func TestCutExample(t *testing.T) {
	want := []api.Piece{
		{Mark: mark(5, 1), Sum: sumOf("abcde"), Total: 5, At: 0, B: []byte("ab")},
		{Mark: mark(5, 1), Sum: sumOf("abcde"), Total: 5, At: 2, B: []byte("cd")},
		{Mark: mark(5, 1), Sum: sumOf("abcde"), Total: 5, At: 4, B: []byte("e")},
	}
	if got := cut(t, mark(5, 1), "abcde", 2); !slices.EqualFunc(got, want, same) {
		t.Errorf("P7.1: %v", got)
	}
}

// TestCut: each piece has as many bytes as are asked for, the last one what is left; of no bytes there is one.
func TestCut(t *testing.T) {
	m := mark(7, 3)
	for _, n := range []int{0, 1, 2, 3, 5, 8, 63, 64, 65, 128, 1000} {
		all := text(n)
		for _, size := range []int{1, 2, 3, 63, 64, 65, n - 1, n, n + 1, 2*n + 1, math.MaxInt - 1, math.MaxInt} {
			if size < 1 {
				continue
			}
			left := all
			ps := cut(t, m, all, size)
			for i, p := range ps {
				b := left[:min(size, len(left))]
				if want := (api.Piece{Mark: m, Sum: sumOf(all), Total: n, At: n - len(left), B: []byte(b)}); !same(p, want) {
					t.Fatalf("P7.1: Cut of %d by %d: piece %d is %v, not %v", n, size, i, p, want)
				}
				if n > 0 && b == "" {
					t.Fatalf("P7.1: Cut of %d by %d: piece %d has no bytes", n, size, i)
				}
				left = left[len(b):]
			}
			if left != "" || len(ps) == 0 || n == 0 && len(ps) != 1 {
				t.Fatalf("P7.1: Cut of %d by %d: %d pieces, %d bytes left", n, size, len(ps), len(left))
			}
		}
	}
}

// TestCutNone: no bytes are one piece without any, nil or empty.
func TestCutNone(t *testing.T) {
	for _, b := range [][]byte{nil, {}} {
		for _, size := range []int{1, 2, math.MaxInt} {
			ps, e := chunk.Cut(mark(1, 1), b, size)
			if e != api.OK || len(ps) != 1 || !same(ps[0], api.Piece{Mark: mark(1, 1)}) {
				t.Errorf("P7.1: Cut of none by %d: %v, %d", size, ps, e)
			}
		}
	}
}

// TestCutWrong: a Mark that may not be, or a size below 1, is ErrArg, whatever the bytes.
func TestCutWrong(t *testing.T) {
	for _, index := range numbers() {
		for _, term := range numbers() {
			for _, size := range []int{math.MinInt, -1, 0, 1, 2} {
				for _, b := range []string{"", "x", "abcde"} {
					want := api.OK
					if !may(index) || !may(term) || size < 1 {
						want = api.ErrArg
					}
					ps, e := chunk.Cut(mark(index, term), []byte(b), size)
					if e != want || (len(ps) == 0) != (e != api.OK) {
						t.Fatalf("P7.1: Cut((%d, %d), %q, %d): %v, %d, not %d", index, term, b, size, ps, e, want)
					}
				}
			}
		}
	}
}

// TestCutMemory: what is handed in isn't changed, its spare room included, and each piece has bytes of its own, its spare room included.
func TestCutMemory(t *testing.T) {
	for size := 1; size <= 6; size++ {
		b := []byte("abcdeXYZ")
		ps, e := chunk.Cut(mark(5, 1), b[:5], size)
		for i, p := range ps {
			room := p.B[:cap(p.B)]
			for j := range room {
				room[j] = byte('0' + i)
			}
		}
		if e != api.OK || string(b) != "abcdeXYZ" {
			t.Fatalf("P7.4: Cut by %d: %d, and what was handed in is %s", size, e, b)
		}
		for i, p := range ps {
			if len(bytes.Trim(p.B, string(rune('0'+i)))) > 0 {
				t.Fatalf("P7.4: Cut by %d: another piece's bytes stand in piece %d: %s", size, i, p.B)
			}
		}
		again, _ := chunk.Cut(mark(5, 1), b[:5], size)
		if len(again) != len(ps) || string(again[0].B) != "abcde"[:min(size, 5)] {
			t.Fatalf("P7.4: Cut by %d again: %v", size, again)
		}
	}
}
