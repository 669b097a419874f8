package mould_test

import (
	"bytes"
	"strings"
	"testing"

	"echelon/api"
	"echelon/mould"
)

// num, blob, all and rows (so many of nothing) make values.
func num(n uint64) api.Val      { return api.Val{N: n} }
func blob(s string) api.Val     { return api.Val{B: []byte(s)} }
func all(vs ...api.Val) api.Val { return api.Val{L: vs} }
func rows(n int) api.Val        { return api.Val{L: make([]api.Val, n)} }

func times(n int, s string) string { return strings.Repeat(s, n) }

// equal holds two values against each other, all fields, nil and empty lists being one.
func equal(a, b api.Val) bool {
	if a.N != b.N || !bytes.Equal(a.B, b.B) || len(a.L) != len(b.L) {
		return false
	}
	for i := range a.L {
		if !equal(a.L[i], b.L[i]) {
			return false
		}
	}
	return true
}

func TestRightShapes(t *testing.T) {
	for _, s := range []string{
		"n", "b", "*n", "*b", "**n", "[]", "[n]", "[nb]", "[n*b[nn]]", "*[]", "[[][]]", "[*n*n]",
		"[" + times(62, "n") + "]", // the longest
		times(8, "*") + "n",        // the deepest: it lies in 8
		times(8, "*") + "b",
		times(8, "*") + "[]",
		times(8, "[") + "n" + times(8, "]"),
		times(9, "[") + times(9, "]"), // the ninth row lies in 8
		times(4, "[*") + "n" + times(4, "]"),
		"[" + times(7, "*") + "n" + times(7, "*") + "n]", // parts beside one another aren't deeper
		"[" + times(2, times(7, "*")+"b[]") + "]",
	} {
		if !mould.Right(s) {
			t.Errorf("P1.1: Right(%q) is false", s)
		}
	}
}

func TestWrongShapes(t *testing.T) {
	for _, s := range []string{
		"", "*", "**", "[", "]", "[n", "n]", "[[n]", "[n]]", "[*]", "*]", "nn", "nb", "*nn", "[]n", "[][]",
		"x", "N", " n", "n ", "[n,n]", "\x00", "é", "[x]", "*x", "n\x00",
		"[" + times(63, "n") + "]", // one byte longer than the longest
		times(9, "*") + "n",        // one deeper than the deepest
		times(9, "*") + "[]",
		times(8, "*") + "[n]",
		times(9, "[") + "n" + times(9, "]"),
		times(9, "[") + "[]" + times(9, "]"),
		times(5, "*[") + "n" + times(5, "]"),
		"[n" + times(8, "*") + "n" + "]",
		times(70, "["), times(64, "*"), times(1000, "*") + "n",
	} {
		if mould.Right(s) {
			t.Errorf("P1.1: Right(%q)", s)
		}
		if mould.Is(s) {
			t.Errorf("P1.1: Is(%q) of no values", s)
		}
	}
}

func TestRightOfSeveral(t *testing.T) {
	if !mould.Right() || !mould.Right("n", "[]", "*b") {
		t.Error("P1.1: Right of none, or of right ones")
	}
	if mould.Right("x", "n") || mould.Right("n", "x") || mould.Right("n", "", "n") {
		t.Error("P1.1: Right, and one isn't")
	}
}

func TestIs(t *testing.T) {
	full := api.Val{N: 9, B: []byte("x"), L: []api.Val{{N: 1}, {B: []byte("y")}}}
	for i, c := range []struct {
		shape string
		vs    []api.Val
		want  bool
	}{
		{"n", nil, true},
		{"n", []api.Val{{}, full, num(1<<64 - 1)}, true}, // what the shape doesn't name counts for nothing
		{"b", []api.Val{{}, full}, true},
		{"*n", []api.Val{{}, full}, true},
		{"**n", []api.Val{{}, full}, true},
		{"[]", []api.Val{{}, num(3)}, true},
		{"[]", []api.Val{full}, false},
		{"[nb]", []api.Val{full}, true},
		{"[nb]", []api.Val{full, {}}, false},
		{"[nb]", []api.Val{{}, full}, false},
		{"[n]", []api.Val{full}, false},
		{"[nbn]", []api.Val{full}, false},
		{"*[n]", []api.Val{all(all(num(1)), all(num(2)))}, true},
		{"*[n]", []api.Val{all(all(num(1)), all())}, false},
		{"*[n]", []api.Val{all(all(num(1)), all(num(2), num(3)))}, false},
		{"[[]]", []api.Val{all(all())}, true},
		{"[[]]", []api.Val{all()}, false},
		{"[n*[b]]", []api.Val{all(num(1), all(all(blob("x")), all(blob(""))))}, true},
		{"[n*[b]]", []api.Val{all(num(1), all(all(blob("x")), blob("y")))}, false},
		{"*[]", []api.Val{rows(1<<20 + 1)}, true},
		{"x", []api.Val{full}, false},
		{"", nil, false},
	} {
		if mould.Is(c.shape, c.vs...) != c.want {
			t.Errorf("P1.1: %d: Is(%q) isn't %t", i, c.shape, c.want)
		}
		b, e := mould.Put(c.shape, c.vs...)
		want := api.OK
		if !c.want {
			want = api.ErrArg
		}
		if !mould.Right(c.shape) {
			want = api.ErrShape
		}
		if e != want || e != api.OK && len(b) != 0 {
			t.Errorf("P1.1: %d: Put(%q): %d bytes, %d", i, c.shape, len(b), e)
		}
	}
}

func TestNumbers(t *testing.T) {
	for i, c := range []struct {
		n    uint64
		want string
	}{
		{0, "\x00"}, {1, "\x01\x01"}, {255, "\x01\xff"},
		{256, "\x02\x01\x00"}, {258, "\x02\x01\x02"}, {1<<16 - 1, "\x02\xff\xff"},
		{1 << 16, "\x03\x01\x00\x00"}, {1<<24 - 1, "\x03\xff\xff\xff"},
		{1 << 24, "\x04\x01\x00\x00\x00"}, {1<<32 - 1, "\x04\xff\xff\xff\xff"},
		{1 << 32, "\x05\x01\x00\x00\x00\x00"}, {1<<40 - 1, "\x05\xff\xff\xff\xff\xff"},
		{1 << 40, "\x06\x01\x00\x00\x00\x00\x00"}, {1<<48 - 1, "\x06\xff\xff\xff\xff\xff\xff"},
		{1 << 48, "\x07\x01\x00\x00\x00\x00\x00\x00"}, {1<<56 - 1, "\x07\xff\xff\xff\xff\xff\xff\xff"},
		{1 << 56, "\x08\x01\x00\x00\x00\x00\x00\x00\x00"}, {1<<64 - 1, "\x08\xff\xff\xff\xff\xff\xff\xff\xff"},
		{0x0123456789abcdef, "\x08\x01\x23\x45\x67\x89\xab\xcd\xef"},
	} {
		b, e := mould.Put("n", num(c.n))
		if string(b) != c.want || e != api.OK {
			t.Errorf("P1.1: %d: Put of %d: %x, %d", i, c.n, b, e)
		}
		v, e := mould.Take("n", []byte(c.want))
		if !equal(v, num(c.n)) || e != api.OK {
			t.Errorf("P1.2: %d: Take of %x: %d, %d", i, c.want, v.N, e)
		}
	}
}

func TestForms(t *testing.T) {
	long := times(300, "z")
	for i, c := range []struct {
		shape string
		v     api.Val
		want  string
	}{
		{"b", blob("hi"), "\x01\x02hi"},
		{"b", api.Val{}, "\x00"},
		{"b", blob(long), "\x02\x01\x2c" + long},
		{"*n", all(num(1), num(0)), "\x01\x02\x01\x01\x00"},
		{"*n", all(), "\x00"},
		{"**b", all(all(), all(blob("x"))), "\x01\x02\x00\x01\x01\x01\x01x"},
		{"[nb]", all(num(7), blob("")), "\x01\x07\x00"},
		{"[]", all(), ""},
		{"[[][[]]]", all(all(), all(all())), ""},
		{"*[]", rows(3), "\x01\x03"},
		{"*[[]]", all(all(all())), "\x01\x01"},
		{"[n[bn]*n]", all(num(0), all(blob("a"), num(256)), all(num(3))), "\x00\x01\x01a\x02\x01\x00\x01\x01\x01\x03"},
	} {
		b, e := mould.Put(c.shape, c.v)
		if string(b) != c.want || e != api.OK {
			t.Errorf("P1.1: %d: Put(%q): %x, %d", i, c.shape, b, e)
		}
		v, e := mould.Take(c.shape, []byte(c.want))
		if !equal(v, c.v) || e != api.OK {
			t.Errorf("P1.2: %d: Take(%q): %v, %d", i, c.shape, v, e)
		}
	}
}

func TestPutOfSeveral(t *testing.T) {
	b, e := mould.Put("[nb]", all(num(1), blob("a")), all(num(0), blob("")))
	if string(b) != "\x01\x01\x01\x01a\x00\x00" || e != api.OK {
		t.Errorf("P1.1: Put of two: %x, %d", b, e)
	}
	if b, e := mould.Put("n"); len(b) != 0 || e != api.OK {
		t.Errorf("P1.1: Put of none: %x, %d", b, e)
	}
	if b, e := mould.Put("[n]", all(num(1)), all()); len(b) != 0 || e != api.ErrArg {
		t.Errorf("P1.1: Put, and one isn't of it: %x, %d", b, e)
	}
	if b, e := mould.Put("*"); len(b) != 0 || e != api.ErrShape {
		t.Errorf("P1.1: Put of none, of no shape: %x, %d", b, e)
	}
	if b, e := mould.Put("[n]x", all()); len(b) != 0 || e != api.ErrShape {
		t.Errorf("P1.1: ErrShape goes ahead of ErrArg: %x, %d", b, e)
	}
}

func TestTakeFaults(t *testing.T) {
	for i, c := range []struct {
		shape, b string
		want     api.Errno
	}{
		{"x", "", api.ErrShape}, {"", "", api.ErrShape}, {"*", "\x00", api.ErrShape}, {"[n", "\x09", api.ErrShape},
		// The bytes end ahead of the value's end.
		{"n", "", api.ErrShort}, {"n", "\x01", api.ErrShort}, {"n", "\x02\x01", api.ErrShort}, {"n", "\x08\x01\x02\x03\x04\x05\x06\x07", api.ErrShort},
		{"b", "", api.ErrShort}, {"b", "\x01", api.ErrShort}, {"b", "\x01\x03ab", api.ErrShort}, {"b", "\x08\xff\xff\xff\xff\xff\xff\xff\xffab", api.ErrShort}, {"b", "\x08\x80\x00\x00\x00\x00\x00\x00\x00ab", api.ErrShort},
		{"*n", "", api.ErrShort}, {"*n", "\x01\x02\x00", api.ErrShort}, {"*[]", "", api.ErrShort}, {"*[]", "\x01", api.ErrShort},
		{"[nn]", "\x00", api.ErrShort}, {"[nn]", "", api.ErrShort}, {"[[]n]", "", api.ErrShort},
		// No one form.
		{"n", "\x09", api.ErrForm}, {"n", "\xff", api.ErrForm}, {"n", "\x01\x00", api.ErrForm}, {"n", "\x02\x00\x01", api.ErrForm}, {"n", "\x08\x00\x01\x01\x01\x01\x01\x01\x01", api.ErrForm}, {"n", "\x09\x01\x01\x01\x01\x01\x01\x01\x01\x01", api.ErrForm},
		{"b", "\x09", api.ErrForm}, {"b", "\x01\x00", api.ErrForm}, {"b", "\x02\x00\x01a", api.ErrForm}, {"*n", "\x09", api.ErrForm}, {"*n", "\x01\x00", api.ErrForm}, {"*[]", "\x0a", api.ErrForm}, {"*n", "\x01\x01\x01\x00", api.ErrForm}, {"[nn]", "\x00\x01\x00", api.ErrForm},
		// The fault that comes first, from the front.
		{"n", "\x02\x00", api.ErrForm}, {"n", "\x08\x00", api.ErrForm}, {"n", "\x09\x00", api.ErrForm}, {"[nn]", "\x01\x00", api.ErrForm}, {"[nn]", "\x01", api.ErrShort}, {"[nn]", "\x09", api.ErrForm}, {"n", "\x01\x00\x00", api.ErrForm},
		// Counts.
		{"*n", "\x01\x05\x00", api.ErrShort}, {"*n", "\x01\x05\x09", api.ErrShort}, {"*n", "\x01\x02\x09", api.ErrShort}, {"*n", "\x01\x01\x09", api.ErrForm}, {"*n", "\x08\xff\xff\xff\xff\xff\xff\xff\xff\x00", api.ErrShort},
		{"*b", "\x01\x02\x09", api.ErrShort}, {"**[]", "\x01\x02\x09", api.ErrShort}, {"*[[]n]", "\x01\x02\x09", api.ErrShort}, {"*[[*[]]]", "\x01\x02\x09", api.ErrShort}, {"*[[]n]", "\x03\x10\x00\x01\x09", api.ErrShort}, {"*[nn]", "\x01\x02\x00\x00", api.ErrShort},
		{"*[]", "\x03\x10\x00\x00", api.OK}, {"*[]", "\x03\x10\x00\x01", api.ErrForm}, {"*[]", "\x08\xff\xff\xff\xff\xff\xff\xff\xff", api.ErrForm}, {"*[[][]]", "\x03\x10\x00\x01", api.ErrForm}, {"*[]", "\x03\x10\x00\x01\x00", api.ErrForm}, {"[*[]n]", "\x03\x10\x00\x01", api.ErrForm}, {"*[]", "\x01\x02", api.OK}, {"*[[][]]", "\x01\xff", api.OK},
		// Bytes are left.
		{"n", "\x00\x00", api.ErrExtra}, {"n", "\x01\x01\x09", api.ErrExtra}, {"b", "\x01\x01ab", api.ErrExtra}, {"*n", "\x00\x00", api.ErrExtra}, {"[]", "\x00", api.ErrExtra}, {"[n]", "\x00\x00", api.ErrExtra}, {"*[]", "\x01\x02\x00", api.ErrExtra},
		{"[]", "", api.OK}, {"[[]]", "", api.OK},
	} {
		v, e := mould.Take(c.shape, []byte(c.b))
		if e != c.want || e != api.OK && !equal(v, api.Val{}) {
			t.Errorf("P1.2: %d: Take(%q, %x): %d, not %d", i, c.shape, c.b, e, c.want)
		}
	}
}

func TestManyHollow(t *testing.T) {
	v, e := mould.Take("*[]", []byte("\x03\x10\x00\x00"))
	if len(v.L) != 1<<20 || e != api.OK {
		t.Errorf("P1.2: 2^20 rows of nothing: %d, %d", len(v.L), e)
	}
	b, e := mould.Put("*[]", v)
	if string(b) != "\x03\x10\x00\x00" || e != api.OK {
		t.Errorf("P1.4: 2^20 rows of nothing: %x, %d", b, e)
	}
	b, e = mould.Put("*[]", rows(1<<20+1))
	if string(b) != "\x03\x10\x00\x01" || e != api.OK {
		t.Errorf("P1.1: more rows of nothing are of the shape: %x, %d", b, e)
	}
}

// TestManySolid: a list whose values have bytes may be longer than one whose values have none.
func TestManySolid(t *testing.T) {
	b, e := mould.Put("*n", rows(1<<20+1))
	if len(b) != 4+1<<20+1 || e != api.OK {
		t.Errorf("P1.1: more than 2^20 numbers: %d bytes, %d", len(b), e)
	}
	v, e := mould.Take("*n", b)
	if len(v.L) != 1<<20+1 || e != api.OK {
		t.Errorf("P1.2: more than 2^20 numbers: %d, %d", len(v.L), e)
	}
}

func TestTakeAll(t *testing.T) {
	for i, c := range []struct {
		shape, b string
		want     []api.Val
		e        api.Errno
	}{
		{"n", "", nil, api.OK},
		{"n", "\x00", []api.Val{{}}, api.OK},
		{"n", "\x01\x05\x00\x02\x01\x00", []api.Val{num(5), num(0), num(256)}, api.OK},
		{"[nb]", "\x00\x01\x01a\x01\x02\x00", []api.Val{all(num(0), blob("a")), all(num(2), blob(""))}, api.OK},
		{"*[]", "\x01\x02\x00", []api.Val{rows(2), {}}, api.OK},
		{"[]", "", nil, api.OK}, {"[[]]", "", nil, api.OK},
		{"[]", "\x00", nil, api.ErrForm}, {"[[][]]", "\x01\x01", nil, api.ErrForm},
		{"x", "", nil, api.ErrShape}, {"[", "\x00", nil, api.ErrShape}, {"", "", nil, api.ErrShape},
		{"n", "\x01\x05\x01", nil, api.ErrShort}, {"n", "\x01\x05\x09", nil, api.ErrForm}, {"n", "\x01\x05\x01\x00\x01", nil, api.ErrForm},
		{"n", "\x09\x01", nil, api.ErrForm}, {"[nn]", "\x00\x00\x00", nil, api.ErrShort}, {"*n", "\x00\x01\x02\x09", nil, api.ErrShort},
		{"*[]", "\x01\x02\x03\x10\x00\x01", nil, api.ErrForm},
	} {
		vs, e := mould.TakeAll(c.shape, []byte(c.b))
		if e != c.e || !equal(api.Val{L: vs}, api.Val{L: c.want}) {
			t.Errorf("P1.2: %d: TakeAll(%q, %x): %v, %d", i, c.shape, c.b, vs, e)
		}
	}
}

func TestSame(t *testing.T) {
	full := api.Val{N: 9, B: []byte("x"), L: []api.Val{{N: 1}, {B: []byte("y")}}}
	for i, c := range []struct {
		shape string
		a, b  api.Val
		want  bool
	}{
		{"n", num(0), api.Val{}, true}, {"n", num(1), num(2), false}, {"n", full, num(9), true}, {"n", num(1), num(256), false},
		{"b", blob("x"), full, true}, {"b", blob(""), num(4), true}, {"b", blob("x"), blob("xx"), false}, {"b", blob("x"), blob("y"), false},
		{"*n", all(), num(3), true}, {"*n", all(num(0)), all(), false}, {"*n", all(num(1), num(2)), all(num(2), num(1)), false},
		{"*n", all(full), all(num(9)), true},
		{"[nb]", full, all(num(1), blob("y")), true}, {"[nb]", full, all(num(1), blob("z")), false},
		{"[nb]", full, all(num(1)), false}, {"[nb]", all(num(1)), full, false}, {"[nb]", all(num(1)), all(num(1)), false}, {"[nb]", all(), all(), false},
		{"[]", all(), num(1), true}, {"[]", full, full, false}, {"*[]", rows(2), rows(3), false}, {"*[]", rows(2), rows(2), true},
		{"x", full, full, false}, {"", all(), all(), false}, {"nn", num(1), num(1), false},
	} {
		if mould.Same(c.shape, c.a, c.b) != c.want || mould.Same(c.shape, c.b, c.a) != c.want {
			t.Errorf("P1.3: %d: Same(%q) isn't %t", i, c.shape, c.want)
		}
	}
}

// TestMemory: what is handed in is neither changed nor kept, and an answer is new memory.
func TestMemory(t *testing.T) {
	const form = "\x01\x02\x01\x02ab\x01\x02bc"
	room := []byte("abcd")
	b, _ := mould.Put("*b", all(api.Val{B: room[:2]}, api.Val{B: room[1:3]}))
	if string(room) != "abcd" {
		t.Errorf("rule 5: Put changed the value: %s", room)
	}
	clear(room)
	if string(b) != form {
		t.Errorf("rule 5: the form hangs on the value: %x", b)
	}
	in := []byte(form + "zz")
	v, _ := mould.Take("*b", in[:len(form)])
	if string(in) != form+"zz" {
		t.Errorf("rule 5: Take changed the bytes: %x", in)
	}
	clear(in)
	_ = append(v.L[0].B, "yyyyyyyy"...)
	v.L[0].B[0] = 'x'
	if string(v.L[0].B) != "xb" || string(v.L[1].B) != "bc" {
		t.Errorf("rule 5: what was taken hangs on the bytes, or shares: %v", v)
	}
	vs, _ := mould.TakeAll("*n", []byte("\x01\x01\x01\x05\x01\x01\x01\x06"))
	_ = append(vs[0].L, num(9))
	vs[0].L[0].N = 7
	if vs[1].L[0].N != 6 {
		t.Errorf("rule 5: two lists of an answer share: %v", vs)
	}
}
