package raft_test

import (
	"bytes"
	"fmt"
	"math/rand"
	"slices"
	"testing"

	"echelon/api"
	"echelon/chunk"
	"echelon/members"
	"echelon/raft"
	"echelon/shelf"
	"echelon/sum"
)

// pieceOf is a piece of server 1 in a Term, as a value.
func pieceOf(term int, p api.Piece) api.Val {
	return with(api.Val{B: p.B}, uint64(term), 1, uint64(p.Index), uint64(p.Term), uint64(p.Sum), uint64(p.Total), uint64(p.At))
}

// tellsOf: may a core have made that piece? It is asked without a core, which would gather it.
func tellsOf(term int, p api.Piece) bool {
	_, ok := raft.Tell(raft.Lay(5, pieceOf(term, p)))
	return ok
}

// snapOf is a snapshot whose configuration has voters 0 and 1.
func snapOf(index, term int, body string) api.Snap {
	return api.Snap{Mark: api.Mark{Index: index, Term: term}, Conf: members.Bytes(plain(2).Boot), Body: []byte(body)}
}

// pieces are those of a snapshot.
func pieces(t *testing.T, x api.Snap, size int) []api.Piece {
	t.Helper()
	ps, e := chunk.Cut(x.Mark, shelf.Bytes(x), size)
	is(t, "P7.1: Cut", e, api.OK)
	return ps
}

// someConf is a configuration in which server 1 is a voter, or another one.
func someConf(r *rand.Rand, one bool) api.Conf {
	c := api.Conf{}
	for {
		n := []int{4, 300, 70000, 1 << 20}[r.Intn(4)]
		ids := map[int]bool{1: one}
		for range r.Intn(9) {
			ids[r.Intn(n)] = r.Intn(3) > 0
		}
		if one {
			ids[1] = true
		}
		c = api.Conf{}
		for id, votes := range ids {
			if votes {
				c.Voters = append(c.Voters, id)
			} else if id != 1 {
				c.Learners = append(c.Learners, id)
			}
		}
		slices.Sort(c.Voters)
		slices.Sort(c.Learners)
		if members.Right(c) {
			return c
		}
	}
}

// TestAllPieces: the pieces of any snapshot, cut by any size, are a core's: of the Term of the snapshot's Mark, if who leads is a voter in it; and of later ones.
func TestAllPieces(t *testing.T) {
	sizes, confs := []int{0, 1, 2, 3, 100, 254, 255, 256, 257, 300, 65535, 65536, 70000}, map[int]int{}
	for seed := range int64(4000) {
		r := rand.New(rand.NewSource(seed))
		term := 1 + r.Intn([]int{2, 300, 1 << 20, top - 2}[r.Intn(4)])
		own := seed%2 == 0
		x := api.Snap{Mark: api.Mark{Index: 1 + r.Intn([]int{2, 300, 1 << 20, top - 2}[r.Intn(4)]), Term: term}}
		x.Conf = members.Bytes(someConf(r, own))
		x.Body = make([]byte, sizes[r.Intn(len(sizes))])
		if own {
			x.Body = x.Body[:len(x.Body)%400]
		}
		r.Read(x.Body)
		confs[len(x.Conf)]++
		size := 1 + r.Intn([]int{3, 30, 300, 1 << 20}[r.Intn(4)])
		if len(x.Body) > 1000 {
			size += 1000
		}
		if !own {
			term += 1 + r.Intn(3)
		}
		for _, p := range pieces(t, x, size) {
			if !tellsOf(term, p) {
				t.Fatalf("P12.2: %d bytes at %d of %d, of %v in Term %d, by %d aren't heard", len(p.B), p.At, p.Total, x, term, size)
			}
		}
	}
	if len(confs) < 20 {
		t.Errorf("the configurations have only %d sizes", len(confs))
	}
	least, most := api.Conf{Voters: []int{0}}, api.Conf{Voters: []int{1 << 16}}
	for id := ids - 8; id < ids; id++ {
		most.Learners = append(most.Learners, id)
	}
	for c, size := range map[*api.Conf]int{&least: 4, &most: 40} {
		x := snapOf(9, 3, "body")
		x.Conf = members.Bytes(*c)
		for _, p := range pieces(t, x, 100) {
			if !tellsOf(4, p) || len(x.Conf) != size {
				t.Errorf("P12.2: a snapshot with a configuration of %d bytes isn't heard", len(x.Conf))
			}
		}
	}
}

// TestCuts: bytes of a snapshot at each place, as many as may be, are a piece just if there is a size by which they are cut so.
func TestCuts(t *testing.T) {
	x := snapOf(9, 3, "the rest of the snapshot")
	b := shelf.Bytes(x)
	for at := range b {
		for end := at + 1; end <= len(b); end++ {
			cut := false
			for size := 1; size <= len(b); size++ {
				cut = cut || slices.ContainsFunc(pieces(t, x, size), func(p api.Piece) bool { return p.At == at && p.At+len(p.B) == end })
			}
			p := api.Piece{Mark: x.Mark, Sum: sum.Of(b), Total: len(b), At: at, B: b[at:end]}
			if tellsOf(5, p) != cut {
				t.Fatalf("P12.2: bytes %d to %d of %d: heard %t", at, end, len(b), !cut)
			}
		}
	}
}

// TestGreatCuts: pieces of up to 2^20 bytes, and last ones behind pieces of that size at most.
func TestGreatCuts(t *testing.T) {
	const most = 1 << 20
	x := snapOf(9, 3, string(make([]byte, 3*most+100)))
	for _, size := range []int{most, most - 3, most - 1} {
		for _, p := range pieces(t, x, size) {
			if !tellsOf(5, p) {
				t.Errorf("P12.2: %d bytes at %d of %d aren't heard", len(p.B), p.At, p.Total)
			}
		}
	}
	for _, size := range []int{most + 1, most + 4, 2 * most} {
		for i, p := range pieces(t, x, size)[:1] {
			if tellsOf(5, p) {
				t.Errorf("P12.2: piece %d of %d bytes is heard", i, len(p.B))
			}
		}
	}
	// Last ones, of bytes 0, as the Body has them. Their places are, in order: 3 times a prime below 2^20; a prime above it; twice that; 2^20; 2^21; a prime squared; and the greatest.
	for _, c := range []struct {
		at, size int
		ok       bool
	}{
		{3 * 1048573, 3, true}, {3 * 1048573, 4, true}, {3 * 1048573, 1048573, true}, {3 * 1048573, 1048574, false},
		{1048583, 1, true}, {1048583, 2, false}, {1048583, 1048576, false},
		{2 * 1048583, 1, true}, {2 * 1048583, 2, true}, {2 * 1048583, 3, false},
		{most, most, true}, {most, most - 1, true}, {most, most + 1, false},
		{2 * most, most, true}, {2 * most, most + 1, false},
		{10007 * 10007, 10007, true}, {10007 * 10007, 10008, false},
		{1<<31 - 3, 2, true}, {1<<31 - 2, 1, true}, {1<<31 - 2, 2, false},
	} {
		p := api.Piece{Mark: api.Mark{Index: 9, Term: 3}, Total: c.at + c.size, At: c.at, B: make([]byte, c.size)}
		if tellsOf(5, p) != c.ok {
			t.Errorf("P12.2: the last %d bytes at %d: heard %t", c.size, c.at, !c.ok)
		}
	}
}

// judge: are these all bytes of a snapshot with that Mark, cut into one piece, as layers 6 and 8 tell?
func judge(term int, p api.Piece) bool {
	x, e := shelf.Parse(p.B)
	if e != api.OK || x.Mark != p.Mark || sum.Of(p.B) != p.Sum || p.At != 0 || p.Total != len(p.B) {
		return false
	}
	c, e := members.Parse(x.Conf)
	return e == api.OK && (x.Term < term || members.Votes(c, 1))
}

// sealed is bytes with their sum ahead of them.
func sealed(b []byte) []byte {
	s := sum.Of(b)
	return append([]byte{byte(s >> 24), byte(s >> 16), byte(s >> 8), byte(s)}, b...)
}

// TestWholePieces: a piece that is all of a snapshot is held against what a snapshot is: with bytes changed, taken away, or laid between, and sums made right again or not.
func TestWholePieces(t *testing.T) {
	heard, not := 0, 0
	for seed := range int64(40000) {
		r := rand.New(rand.NewSource(seed))
		x := api.Snap{Mark: api.Mark{Index: 1 + r.Intn(300), Term: 1 + r.Intn(4)}, Conf: members.Bytes(someConf(r, r.Intn(2) == 0)), Body: make([]byte, r.Intn(4))}
		form := shelf.Bytes(x)[4:]
		for range r.Intn(3) {
			k := r.Intn(len(form))
			switch r.Intn(4) {
			case 0:
				form = slices.Delete(form, k, k+1)
			case 1:
				form = slices.Insert(form, k, byte(r.Intn(9)))
			default:
				form[k] = byte(r.Intn([]int{3, 9, 256}[r.Intn(3)]))
			}
		}
		b := sealed(form)
		if r.Intn(8) == 0 {
			b[r.Intn(4)] ^= byte(1 + r.Intn(255))
		}
		p := api.Piece{Mark: x.Mark, Sum: sum.Of(b), Total: len(b), B: b}
		if r.Intn(8) == 0 {
			p.Sum ^= 1 << r.Intn(32)
		}
		if r.Intn(8) == 0 {
			b[len(b)-1]++
		}
		term := x.Term + r.Intn(2)
		want := judge(term, p)
		if got := tellsOf(term, p); got != want {
			t.Fatalf("P12.2: %v in Term %d: heard %t", p, term, got)
		}
		if want {
			heard++
		} else {
			not++
		}
	}
	if heard < 5000 || not < 5000 {
		t.Errorf("%d are heard, %d aren't", heard, not)
	}
}

// TestPartsOfNoSnapshot: a piece that isn't all of a snapshot is held against what it shows of one: where the Mark's numbers stand, and how many bytes behind them; and the sum of all, by the sum that a snapshot begins with.
func TestPartsOfNoSnapshot(t *testing.T) {
	x := snapOf(300, 3, string(make([]byte, 300)))
	b := shelf.Bytes(x)
	// Four bytes of the sum, three of Index, two of Term, two of how many the Conf has, six of that, three of how many the Body has.
	const conf, rest = 4 + 3 + 2 + 2, 4 + 3 + 2 + 2 + 6 + 3
	for _, size := range []int{1, 2, 3, 4, 5, 7, 11, 16, 17, 20, 40, len(b) - 1} {
		for _, p := range pieces(t, x, size) {
			for k := range p.B {
				at := p.At + k
				ends := p.At + len(p.B)
				for _, change := range []byte{1, 2, 0x40, 0xff} {
					q := p
					q.B = slices.Clone(p.B)
					q.B[k] ^= change
					want := true
					switch {
					case at < 4:
						want = p.At > 0 || ends < 4
					case at == conf-1:
						// Another size of the Conf, which isn't shown whole then.
						want = q.B[k] >= 4 && q.B[k] <= 40 && ends < conf+int(q.B[k])
					case at < conf:
						want = false
					case at < rest && p.At >= conf:
						continue // whatever is shown, a Conf of another size may stand there
					case at < conf+6 && ends >= conf+6:
						_, e := members.Parse(q.B[conf-p.At : conf-p.At+6])
						want = e == api.OK
					case at >= conf+6 && at < rest:
						want = false
					}
					if tellsOf(4, q) != want {
						t.Fatalf("P12.2: bytes %d to %d, of which byte %d is %x: heard %t", p.At, ends, at, q.B[k], !want)
					}
				}
			}
			q := p
			q.Sum ^= 1
			if want := p.At > 0 || len(p.B) < 4; tellsOf(4, q) != want {
				t.Fatalf("P12.2: bytes %d to %d with another sum: heard %t", p.At, p.At+len(p.B), !want)
			}
		}
	}
}

// TestConfSizes: a configuration has from 4 to 40 bytes, also where no byte of it is shown.
func TestConfSizes(t *testing.T) {
	p := pieces(t, snapOf(9, 3, string(make([]byte, 300))), 10)[0]
	for size := range 256 {
		p.B[9] = byte(size)
		if got := tellsOf(4, p); got != (size >= 4 && size <= 40) {
			t.Errorf("P12.2: a configuration of %d bytes: heard %t", size, got)
		}
	}
}

// TestPieceMarks: who leads in the Term of a snapshot's Mark is a voter in it, and has room for an entry of its Term behind an elder one; of no Mark there is a snapshot of very few bytes.
func TestPieceMarks(t *testing.T) {
	for i, c := range []struct {
		mark             api.Mark
		voters, learners []int
		term             int
		ok               bool
	}{
		{api.Mark{Index: 9, Term: 3}, []int{1}, nil, 3, true},
		{api.Mark{Index: 9, Term: 3}, []int{0, 1}, []int{2}, 3, true},
		{api.Mark{Index: 9, Term: 3}, []int{0, 2}, nil, 3, false},
		{api.Mark{Index: 9, Term: 3}, []int{0, 2}, []int{1}, 3, false},
		{api.Mark{Index: 9, Term: 3}, []int{0, 2}, nil, 4, true},
		{api.Mark{Index: 9, Term: 3}, []int{0, 2}, []int{1}, 4, true},
		{api.Mark{Index: 9, Term: 3}, []int{1}, nil, 2, false},
		{api.Mark{Index: top - 1, Term: 3}, []int{1}, nil, 3, true},
		{api.Mark{Index: top - 1, Term: 3}, []int{1}, nil, 4, false},
		{api.Mark{Index: top - 2, Term: 3}, []int{1}, nil, 4, true},
		{api.Mark{Index: top - 1, Term: top - 1}, []int{1}, nil, top - 1, true},
		{api.Mark{Index: 1, Term: 1}, []int{1}, nil, top - 1, true},
	} {
		x := api.Snap{Mark: c.mark, Conf: members.Bytes(api.Conf{Voters: c.voters, Learners: c.learners}), Body: []byte("body")}
		for _, size := range []int{100, len(shelf.Bytes(x)) - 2} {
			if got := tellsOf(c.term, pieces(t, x, size)[0]); got != c.ok {
				t.Errorf("P12.2: %d, by %d: heard %t", i, size, got)
			}
		}
	}
	for _, m := range []api.Mark{{Index: 1, Term: 1}, {Index: 255, Term: 256}, {Index: top - 1, Term: 3}} {
		x := api.Snap{Mark: m, Conf: members.Bytes(api.Conf{Voters: []int{0}})}
		least := len(shelf.Bytes(x))
		for total := 2; total < least+300; total++ {
			p := api.Piece{Mark: m, Total: total, At: total - 1, B: []byte{0}}
			if got := tellsOf(m.Term+1, p) || m.Index == top-1; got != (total >= least || m.Index == top-1) {
				t.Errorf("P12.2: a byte of %d, where there are %d at least: heard %t", total, least, got)
			}
		}
	}
}

// TestPieceEdges: of a piece a number is one that no core has.
func TestPieceEdges(t *testing.T) {
	p := pieces(t, snapOf(9, 3, "body"), 100)[0]
	n := uint64(len(p.B))
	all := api.Val{B: p.B}
	told(t, "a piece", []said{
		{5, with(all, 3, 1, 9, 3, uint64(p.Sum), n, 0), true},
		{5, with(all, 3, ids-1, 9, 3, uint64(p.Sum), n, 0), false}, // no voter, in the Mark's Term
		{5, with(all, top-1, ids-1, 9, 3, uint64(p.Sum), n, 0), true},
		{5, with(all, top, 1, 9, 3, uint64(p.Sum), n, 0), false},
		{5, with(all, 4, ids, 9, 3, uint64(p.Sum), n, 0), false},
		{5, with(all, 4, 1, top, 3, uint64(p.Sum), n, 0), false},
		{5, with(all, 4, 1, 8, 3, uint64(p.Sum), n, 0), false},
		{5, with(all, 2, 1, 9, 3, uint64(p.Sum), n, 0), false},
		{5, with(all, 4, 1, 9, 4, uint64(p.Sum), n, 0), false},
		{5, with(all, 4, 1, 0, 0, uint64(p.Sum), n, 0), false},
		{5, with(all, 4, 1, 9, 0, uint64(p.Sum), n, 0), false},
		{5, with(all, 4, 1, 0, 3, uint64(p.Sum), n, 0), false},
		{5, with(all, 4, 1, 9, 3, uint64(p.Sum)^1, n, 0), false},
		{5, with(all, 4, 1, 9, 3, 1<<32+uint64(p.Sum), n, 0), false},
		{5, with(all, 4, 1, 9, 3, uint64(p.Sum), n+1, 0), false},
		{5, with(all, 4, 1, 9, 3, uint64(p.Sum), n-1, 0), false},
		{5, with(all, 4, 1, 9, 3, uint64(p.Sum), n, 1), false},
		{5, with(api.Val{}, 4, 1, 9, 3, 7, 0, 0), false},
		{5, with(api.Val{}, 4, 1, 9, 3, 7, 90, 80), false},
		{5, with(api.Val{B: []byte{7}}, 4, 1, 9, 3, 7, 90, 80), true},
		{5, with(api.Val{B: []byte{7}}, 4, 1, 0, 0, 7, 90, 80), false},
		{5, with(api.Val{B: []byte{7}}, 4, 1, 9, 3, 7, 90, 89), true},
		{5, with(api.Val{B: []byte{7}}, 4, 1, 9, 3, 7, 90, 90), false},
		{5, with(api.Val{B: []byte{7}}, 4, 1, 9, 3, 7, 1<<31-1, 1<<31-2), true},
		{5, with(api.Val{B: []byte{7}}, 4, 1, 9, 3, 7, 1<<31, 1<<31-2), false},
		{5, with(api.Val{B: []byte{7}}, 4, 1, 9, 3, 7, 1<<31, 1<<31-1), false},
		{5, with(api.Val{B: []byte{7}}, 4, 1, 9, 3, 7, 90, 1<<63), false},
		{5, with(api.Val{B: []byte{7}}, 4, 1, 9, 3, 7, 1<<63, 80), false},
	})
}

// TestPiecesOfNone: pieces that each might be a snapshot's, and together are none: nothing is put anywhere, and the core isn't down.
func TestPiecesOfNone(t *testing.T) {
	d := space(t, 9999)
	c := opened(t, d, 0, plain(3), 0)
	b := shelf.Bytes(snapOf(9, 3, "body"))
	b[len(b)-1] ^= 1
	ps, _ := chunk.Cut(api.Mark{Index: 9, Term: 3}, b, 3)
	for range 2 {
		for _, p := range ps {
			said, e := c.Hear(raft.Lay(5, pieceOf(4, p)), 0)
			if len(said) != 0 || e != api.OK || c.Commit() != 0 || c.Down() || c.Mark() != (api.Mark{}) {
				t.Errorf("P12.2: %d posts, %d; it is %s", len(said), e, tell(c, d))
			}
		}
	}
	if x := shelf.Bytes(snapOf(9, 3, "body")); bytes.Equal(x, b) {
		t.Error(fmt.Sprint("nothing was changed in ", b))
	}
}
