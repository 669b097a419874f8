package mould_test

import (
	"bytes"
	"math/rand"
	"strings"
	"testing"

	"echelon/api"
	"echelon/mould"
)

// someShapes have all kinds, in and beside one another.
func someShapes() []string {
	return []string{"n", "b", "*n", "*b", "**n", "[]", "[n]", "[nb]", "[bn]", "*[]", "*[[]]", "[n*b[nn]]", "*[n*[b*n]]", "[*[]n*[[]]]", "[[][n][]]", times(8, "*") + "n", times(8, "[") + "n" + times(8, "]")}
}

// draw makes a value of a shape, with something in fields that the shape doesn't name, too; and the same without them. What is left of the shape comes back.
func draw(r *rand.Rand, shape string) (v, plain api.Val, rest string) {
	switch shape[0] {
	case 'n':
		n := r.Uint64() >> r.Intn(64) * uint64(r.Intn(5)%4)
		return api.Val{N: n, B: []byte("n"), L: make([]api.Val, r.Intn(2))}, api.Val{N: n}, shape[1:]
	case 'b':
		b := make([]byte, r.Intn(4)*r.Intn(4)*r.Intn(40))
		r.Read(b)
		return api.Val{N: 1, B: b, L: make([]api.Val, r.Intn(2))}, api.Val{B: b}, shape[1:]
	case '*':
		_, _, rest = draw(r, shape[1:])
		v.B, v.N = []byte("l"), 7
		for range r.Intn(4) {
			x, p, _ := draw(r, shape[1:])
			v.L, plain.L = append(v.L, x), append(plain.L, p)
		}
		return v, plain, rest
	}
	v.B, v.N = []byte("r"), 8
	for rest = shape[1:]; rest[0] != ']'; {
		x, p, left := draw(r, rest)
		v.L, plain.L, rest = append(v.L, x), append(plain.L, p), left
	}
	return v, plain, rest[1:]
}

func TestTakeOfPut(t *testing.T) {
	r := rand.New(rand.NewSource(1))
	for _, s := range someShapes() {
		for range 200 {
			v, plain, _ := draw(r, s)
			b, e := mould.Put(s, v)
			if e != api.OK || !mould.Is(s, v, plain) || !mould.Same(s, v, plain) {
				t.Fatalf("P1.4: %q: %v: %d", s, v, e)
			}
			if p, _ := mould.Put(s, plain); !bytes.Equal(p, b) {
				t.Fatalf("P1.4: %q: fields that aren't named count: %x, %x", s, b, p)
			}
			if got, e := mould.Take(s, b); e != api.OK || !equal(got, plain) {
				t.Fatalf("P1.4: %q: %x comes back as %v, %d, not %v", s, b, got, e, plain)
			}
			if _, e := mould.Take(s, append(b, 0)); e != api.ErrExtra {
				t.Fatalf("P1.2: %q: %x and one byte: %d", s, b, e)
			}
			for i := range min(len(b), 300) {
				if _, e := mould.Take(s, b[:i]); e != api.ErrShort {
					t.Fatalf("P1.2: %q: %d bytes of %x: %d", s, i, b, e)
				}
			}
		}
	}
}

func TestTakeAllOfPut(t *testing.T) {
	r := rand.New(rand.NewSource(2))
	for _, s := range someShapes() {
		for range 50 {
			var vs, plains []api.Val
			for range r.Intn(4) {
				v, p, _ := draw(r, s)
				vs, plains = append(vs, v), append(plains, p)
			}
			b, _ := mould.Put(s, vs...)
			if s == "[]" {
				plains = nil
			}
			if got, e := mould.TakeAll(s, b); e != api.OK || !equal(api.Val{L: got}, api.Val{L: plains}) {
				t.Fatalf("P1.4: %q: %x comes back as %v, %d, not %v", s, b, got, e, plains)
			}
		}
	}
}

// shortTexts are all texts of up to so many of these bytes.
func shortTexts(most int, of string) []string {
	out := []string{""}
	for from := 0; most > 0; most-- {
		for _, s := range out[from:] {
			from++
			for _, c := range []byte(of) {
				out = append(out, s+string([]byte{c}))
			}
		}
	}
	return out
}

// TestShortBytes goes through all short texts: what is taken is put the same again, no form is another one's beginning, and bytes behind don't mend what is no form.
func TestShortBytes(t *testing.T) {
	bytesOf := "\x00\x01\x02\x03\x08\x09\xff"
	short, shorter := shortTexts(5, bytesOf), shortTexts(3, bytesOf)
	for _, s := range someShapes() {
		texts := short
		if strings.Contains(s, "*[]") || strings.Contains(s, "*[[]") { // some bytes may be a million values
			texts = shorter
		}
		told := map[string]api.Errno{}
		for _, b := range texts {
			v, e := mould.Take(s, []byte(b))
			told[b] = e
			if e != api.OK && !equal(v, api.Val{}) {
				t.Fatalf("rule 2: %q: %x: %v beside %d", s, b, v, e)
			}
			if p, f := mould.Put(s, v); e == api.OK && (f != api.OK || string(p) != b) {
				t.Fatalf("P1.4: %q: %x is put as %x, %d", s, b, p, f)
			}
		}
		for b, e := range told {
			if b != "" {
				checkBehind(t, s, b, e, told[b[:len(b)-1]])
			}
		}
	}
}

// checkBehind holds what is told of a text against what is told of it without its last byte.
func checkBehind(t *testing.T, shape, b string, e, ahead api.Errno) {
	t.Helper()
	switch ahead {
	case api.OK, api.ErrExtra:
		if e != api.ErrExtra {
			t.Fatalf("P1.4: %q: %x has a form as its beginning: %d", shape, b, e)
		}
	case api.ErrForm:
		if e != api.ErrForm {
			t.Fatalf("P1.2: %q: %x begins as no form does: %d", shape, b, e)
		}
	case api.ErrShort:
		if e == api.ErrExtra {
			t.Fatalf("P1.2: %q: %x: %d, and a byte less is too short", shape, b, e)
		}
	default:
		t.Fatalf("P1.2: %q: %x: %d", shape, b, e)
	}
}

// TestAnyShape: whatever text is a shape, the calls end and agree whether it is one.
func TestAnyShape(t *testing.T) {
	for _, s := range append(shortTexts(5, "nb*[]x"), strings.Repeat("*[", 32), strings.Repeat("]", 64), strings.Repeat("[", 1<<16)) {
		right := mould.Right(s)
		_, e := mould.Put(s)
		_, f := mould.Take(s, nil)
		_, g := mould.TakeAll(s, nil)
		if mould.Is(s) != right || e == api.OK != right || f != api.ErrShape != right || g == api.OK != right || !right && (e != api.ErrShape || g != api.ErrShape) {
			t.Fatalf("P1.1: %q: %t, %d, %d, %d", s, right, e, f, g)
		}
		if right != isShape(s) {
			t.Fatalf("P1.1: Right(%q) is %t", s, right)
		}
	}
}

// isShape says of short texts that they are shapes, by taking away from them what is one till n is left.
func isShape(s string) bool {
	if strings.ContainsAny(s, "x") || len(s) > 8 {
		return false
	}
	s = strings.ReplaceAll(s, "b", "n")
	for {
		less := strings.ReplaceAll(strings.ReplaceAll(s, "*n", "n"), "[n", "[")
		less = strings.ReplaceAll(less, "[]", "n")
		if less == s {
			return s == "n"
		}
		s = less
	}
}
