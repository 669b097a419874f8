package sum_test

import (
	"bytes"
	"hash/crc32"
	"math"
	"math/rand"
	"strings"
	"testing"

	"echelon/api"
	"echelon/sum"
)

// leadOn leads a register on by one byte, in the document's words.
func leadOn(r uint32, c byte) uint32 {
	r ^= uint32(c)
	for range 8 {
		if r%2 == 1 {
			r = r/2 ^ 0x82F63B78
		} else {
			r = r / 2
		}
	}
	return r
}

// slow is the sum of bytes of that sum, with these behind them, in the document's words.
func slow(s uint32, b []byte) uint32 {
	r := s ^ 0xFFFFFFFF
	for _, c := range b {
		r = leadOn(r, c)
	}
	return r ^ 0xFFFFFFFF
}

// some draws so many bytes.
func some(r *rand.Rand, n int) []byte {
	b := make([]byte, n)
	r.Read(b)
	return b
}

// cut cuts bytes into so many pieces, some of them empty or nil.
func cut(r *rand.Rand, b []byte, n int) [][]byte {
	var out [][]byte
	for range n {
		at := r.Intn(len(b) + 1)
		piece := b[:at:at]
		if at == 0 && r.Intn(2) == 0 {
			piece = nil
		}
		out, b = append(out, piece), b[at:]
	}
	return append(out, b)
}

// someSums are 0, all ones, each single bit, and others.
func someSums() []uint32 {
	out := []uint32{0, 1<<32 - 1, 0x12345678, 0xE3069283, 0x82F63B78, 0x7FFFFFFF, 0xAAAAAAAA, 0x0000FFFF, 0xFF0000FF}
	for i := range 32 {
		out = append(out, 1<<i)
	}
	return out
}

func TestKnownSums(t *testing.T) {
	var up, down []byte
	for i := range 32 {
		up, down = append(up, byte(i)), append(down, byte(31-i))
	}
	for i, c := range []struct {
		b    string
		want uint32
	}{
		{"", 0},
		{"123456789", 0xE3069283},
		{"a", 0xC1D04330},
		{strings.Repeat("\x00", 32), 0x8A9136AA},
		{strings.Repeat("\xff", 32), 0x62A8AB43},
		{string(up), 0x46DD794E},
		{string(down), 0x113FDB5C},
		{"\xff\xff\xff\xff", 0xFFFFFFFF}, // the register comes to be 0
	} {
		b := []byte(c.b)
		if got := sum.Of(b); got != c.want {
			t.Errorf("P2.1: %d: the sum of %x is %08x, not %08x", i, b, got, c.want)
		}
		if got := sum.More(0, b); got != c.want {
			t.Errorf("P2.1: %d: no bytes have the sum 0, and %x behind them %08x, not %08x", i, b, got, c.want)
		}
		if !sum.Fits(c.want, b) || sum.Fits(^c.want, b) {
			t.Errorf("P2.1: %d: Fits of %x", i, b)
		}
	}
}

// TestEachByte leads registers of all bits on by all bytes.
func TestEachByte(t *testing.T) {
	r := rand.New(rand.NewSource(1))
	for c := range 256 {
		for _, s := range append(someSums(), r.Uint32(), r.Uint32()) {
			if got, want := sum.More(s, []byte{byte(c)}), slow(s, []byte{byte(c)}); got != want {
				t.Fatalf("P2.1: More(%08x, %02x): %08x, not %08x", s, c, got, want)
			}
		}
	}
}

func TestPieces(t *testing.T) {
	r := rand.New(rand.NewSource(2))
	table := crc32.MakeTable(crc32.Castagnoli)
	for i := range 3000 {
		b, s := some(r, r.Intn(1+i%200)), r.Uint32()*uint32(r.Intn(4)%3)
		want := slow(s, b)
		if want != crc32.Update(s, table, b) {
			t.Fatalf("the test's own sum isn't right: %08x of %x", want, b)
		}
		ps := cut(r, b, r.Intn(6))
		if got := sum.More(s, ps...); got != want {
			t.Fatalf("P2.1: More(%08x, %x): %08x, not %08x", s, ps, got, want)
		}
		if got := sum.More(sum.More(s, ps[:1]...), ps[1:]...); got != want {
			t.Fatalf("P2.1: More(%08x, %x) in two calls: %08x, not %08x", s, ps, got, want)
		}
		if got := sum.Of(ps...); got != slow(0, b) {
			t.Fatalf("P2.1: Of(%x): %08x, not %08x", ps, got, slow(0, b))
		}
		if !sum.Fits(slow(0, b), ps...) {
			t.Fatalf("P2.1: Fits(%08x, %x) is false", slow(0, b), ps)
		}
	}
}

func TestNoPieces(t *testing.T) {
	for _, none := range [][][]byte{nil, {}, {nil}, {{}}, {{}, nil, {}}, {[]byte("room")[:0]}} {
		if got := sum.Of(none...); got != 0 {
			t.Errorf("P2.1: Of no bytes, %d pieces: %08x", len(none), got)
		}
		for _, s := range someSums() {
			if got := sum.More(s, none...); got != s {
				t.Errorf("P2.1: More(%08x) of no bytes, %d pieces: %08x", s, len(none), got)
			}
			if sum.Fits(s, none...) != (s == 0) {
				t.Errorf("P2.1: Fits(%08x) of no bytes, %d pieces", s, len(none))
			}
		}
	}
}

func TestFitsNoOther(t *testing.T) {
	r := rand.New(rand.NewSource(3))
	for range 50 {
		ps := cut(r, some(r, r.Intn(20)), r.Intn(3))
		s := sum.Of(ps...)
		for i := range 32 {
			if sum.Fits(s^1<<i, ps...) {
				t.Fatalf("P2.1: Fits(%08x, %x), and the sum is %08x", s^1<<i, ps, s)
			}
		}
	}
}

// join is Join of a size that isn't below 0.
func join(t *testing.T, a, b uint32, size int) uint32 {
	t.Helper()
	s, e := sum.Join(a, b, size)
	if e != api.OK {
		t.Fatalf("P2.2: Join(%08x, %08x, %d): %d", a, b, size, e)
	}
	return s
}

func TestJoinCuts(t *testing.T) {
	r := rand.New(rand.NewSource(4))
	for n := range 70 {
		all := some(r, n)
		for at := range n + 1 {
			if got := join(t, sum.Of(all[:at]), sum.Of(all[at:]), n-at); got != sum.Of(all) {
				t.Fatalf("P2.2: %x and %x joined: %08x, not %08x", all[:at], all[at:], got, sum.Of(all))
			}
		}
	}
	for _, n := range []int{255, 256, 257, 1000, 1 << 16, 1<<20 + 1} {
		a, b := some(r, 5), some(r, n)
		if got := join(t, sum.Of(a), sum.Of(b), n); got != sum.Of(a, b) {
			t.Errorf("P2.2: %x and %d bytes joined: %08x, not %08x", a, n, got, sum.Of(a, b))
		}
	}
}

// TestJoinAny: any two sums and any size are joined by the rule, whether bytes have them or not.
func TestJoinAny(t *testing.T) {
	r := rand.New(rand.NewSource(5))
	for _, a := range append(someSums(), r.Uint32()) {
		for _, b := range append(someSums(), r.Uint32()) {
			led := a
			for size := range 20 {
				if got := join(t, a, b, size); got != led^b {
					t.Fatalf("P2.2: Join(%08x, %08x, %d): %08x, not %08x", a, b, size, got, led^b)
				}
				led = leadOn(led, 0)
			}
		}
	}
	if got := join(t, 5, 6, 0); got != 3 {
		t.Errorf("P2.2: Join(5, 6, 0): %d: no bytes have the sum 6, and the rule holds all the same", got)
	}
}

// TestJoinGreat: leading on by 2^31 - 1 bytes 0 changes no register (so long is the polynomial's round), so great sizes do what small ones do.
func TestJoinGreat(t *testing.T) {
	const round = 1<<31 - 1
	r := rand.New(rand.NewSource(6))
	for _, a := range append(someSums(), r.Uint32()) {
		b := r.Uint32()
		for i, c := range []struct{ size, like int }{
			{round, 0}, {round - 1, 2*round - 1}, {round + 1, 1}, {3*round + 9, 9}, {1 << 31, 1}, {1 << 32, 2}, {1 << 40, 1 << 9},
			{1 << 62, 1}, {math.MaxInt, 1}, {math.MaxInt - 1, 0}, {math.MaxInt - 1 - round, 0},
		} {
			if got, want := join(t, a, b, c.size), join(t, a, b, c.like); got != want {
				t.Fatalf("P2.2: %d: Join(%08x, %08x, %d): %08x, and of %d: %08x", i, a, b, c.size, got, c.like, want)
			}
		}
		if got := join(t, join(t, a, 0, round-1), 0, 1); got != a {
			t.Fatalf("P2.2: %08x led on by a round of bytes, but for one, and by one: %08x", a, got)
		}
		m, n := r.Intn(math.MaxInt/2), r.Intn(math.MaxInt/2)
		if got, want := join(t, join(t, a, 0, m), b, n), join(t, a, b, m+n); got != want {
			t.Fatalf("P2.2: %08x led on by %d and %d bytes: %08x, not %08x", a, m, n, got, want)
		}
	}
}

func TestJoinBelow(t *testing.T) {
	for _, size := range []int{-1, -2, -8, -1 << 31, -1 << 32, math.MinInt + 1, math.MinInt} {
		for _, a := range someSums() {
			if got, e := sum.Join(a, ^a, size); got != 0 || e != api.ErrArg {
				t.Errorf("P2.2: Join(%08x, %08x, %d): %08x, %d", a, ^a, size, got, e)
			}
		}
	}
}

func TestFix(t *testing.T) {
	r := rand.New(rand.NewSource(7))
	sums := append(someSums(), r.Uint32(), r.Uint32())
	for _, s := range sums {
		for _, want := range append(sums, r.Uint32(), ^s, s+1) {
			f := sum.Fix(s, want)
			if got := slow(s, f[:]); got != want {
				t.Fatalf("P2.3: Fix(%08x, %08x): %x, and with these the sum is %08x", s, want, f, got)
			}
		}
	}
}

func TestFixBehindBytes(t *testing.T) {
	r := rand.New(rand.NewSource(8))
	for i := range 500 {
		b, want := some(r, i%50), r.Uint32()
		f := sum.Fix(sum.Of(b), want)
		if !sum.Fits(want, b, f[:]) {
			t.Fatalf("P2.3: %x behind %x haven't the sum %08x", f, b, want)
		}
	}
	if f := sum.Fix(0, 0xFFFFFFFF); f != [4]byte{255, 255, 255, 255} {
		t.Errorf("P2.3: %x", f)
	}
}

// TestFixIsTheOne: whatever four bytes stand behind, they are those that Fix names for the sum that they make.
func TestFixIsTheOne(t *testing.T) {
	r := rand.New(rand.NewSource(9))
	for _, s := range append(someSums(), r.Uint32(), r.Uint32()) {
		for _, x := range append(someSums(), r.Uint32(), r.Uint32()) {
			f := [4]byte{byte(x), byte(x >> 8), byte(x >> 16), byte(x >> 24)}
			if got := sum.Fix(s, slow(s, f[:])); got != f {
				t.Fatalf("P2.3: behind the sum %08x: %x, not %x", s, got, f)
			}
		}
	}
}

// TestBursts: bytes that differ side by side (in the order in which their bits are taken, the lowest of a byte first) have another sum, at whichever bit that begins.
func TestBursts(t *testing.T) {
	r := rand.New(rand.NewSource(10))
	for n := 1; n <= 12; n++ {
		b := some(r, n)
		for at := range 8 * n {
			for width := 1; width <= min(32, 8*n-at); width++ {
				ends := uint64(1) | 1<<(width-1)
				all := uint64(1)<<width - 1
				for _, burst := range []uint64{all, ends, ends | r.Uint64()&all, ends | r.Uint64()&all} {
					other := differ(b, at, burst)
					if sum.Of(other) == sum.Of(b) || sum.Fits(sum.Of(b), other) {
						t.Fatalf("P2.4: %x and %x have one sum", b, other)
					}
				}
			}
		}
	}
}

// differ is bytes whose bits from a place on are others where a burst's are 1.
func differ(b []byte, at int, burst uint64) []byte {
	out := bytes.Clone(b)
	for i := 0; burst>>i != 0; i++ {
		out[(at+i)/8] ^= byte(burst >> i & 1 << ((at + i) % 8))
	}
	return out
}

// TestBurstTooWide: the polynomial itself is 33 bits wide and isn't seen: it shows that the other tests lay their bits in the order in which they are taken.
func TestBurstTooWide(t *testing.T) {
	b := []byte("123456789")
	for at := range 8*len(b) - 32 {
		if other := differ(b, at, 0x105EC76F1); sum.Of(other) != sum.Of(b) {
			t.Fatalf("%x and %x have two sums", b, other)
		}
	}
}

// TestBurstsAmongMany: far from both ends, and behind any sum, too.
func TestBurstsAmongMany(t *testing.T) {
	r := rand.New(rand.NewSource(11))
	b := some(r, 3000)
	want := sum.Of(b)
	for range 2000 {
		at, burst := r.Intn(8*3000-32), uint64(1+r.Int63n(1<<32-1))
		if other := differ(b, at, burst); sum.Of(other) == want {
			t.Fatalf("P2.4: %x from bit %d on isn't seen", burst, at)
		}
	}
	for range 200 {
		s, burst := r.Uint32(), uint64(1+r.Int63n(1<<32-1))
		if other := differ(b[:9], r.Intn(40), burst); sum.More(s, other) == sum.More(s, b[:9]) {
			t.Fatalf("P2.4: %x and %x have one sum behind %08x", b[:9], other, s)
		}
	}
}

// TestMemory: what is handed in is neither changed nor kept, and calls hang on nothing but their arguments.
func TestMemory(t *testing.T) {
	room := []byte("123456789 and more")
	ps := [][]byte{room[:4], room[4:9], nil}
	for range 2 {
		if sum.Of(ps[:2]...) != 0xE3069283 || sum.More(7, ps...) != slow(7, room[:9]) || !sum.Fits(0xE3069283, ps...) {
			t.Error("rule 7: the sums hang on more than the bytes")
		}
		if string(room) != "123456789 and more" || len(ps[0]) != 4 || len(ps[1]) != 5 || ps[2] != nil {
			t.Errorf("rule 5: what was handed in is changed: %s", room)
		}
	}
	f := sum.Fix(1, 2)
	f[0]++
	if g := sum.Fix(1, 2); g == f {
		t.Error("rule 5: an answer of Fix hangs on another one")
	}
}
