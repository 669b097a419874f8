package shelf_test

import (
	"bytes"
	"fmt"
	"math"
	"slices"
	"strings"
	"testing"

	"echelon/api"
	"echelon/shelf"
)

// numbers are what an Index and a Term may be, and may not.
func numbers() []int {
	return []int{math.MinInt, -top, -1, 0, 1, 2, 255, 256, top - 1, top, top + 1, math.MaxInt}
}

// may: may a snapshot have it as its Index, or its Term?
func may(n int) bool { return n >= 1 && n < top }

// TestBytes: a snapshot's bytes are its sum and its form, also of one whose Mark may not be.
func TestBytes(t *testing.T) {
	if got := shelf.Bytes(snap(5, 1, "abc")); !bytes.Equal(got[4:], []byte("\x01\x05\x01\x01\x01\x01c\x01\x03abc")) {
		t.Errorf("P6.1: Bytes: %x", got)
	}
	if got := shelf.Bytes(api.Snap{}); !bytes.Equal(got, sealed([]byte{0, 0, 0, 0})) {
		t.Errorf("P6.1: Bytes of the zero one: %x", got)
	}
	texts := []string{"", "\x00", "xyz", strings.Repeat("q", 255), strings.Repeat("q", 256), strings.Repeat("s", 70000)}
	for _, index := range numbers() {
		for _, term := range numbers() {
			for i, conf := range texts {
				x := api.Snap{Mark: api.Mark{Index: index, Term: term}, Conf: []byte(conf), Body: []byte(texts[len(texts)-1-i])}
				if got := shelf.Bytes(x); !bytes.Equal(got, laid(x)) {
					t.Fatalf("P6.1: Bytes of (%d, %d) with %d and %d bytes: %d of them", index, term, len(x.Conf), len(x.Body), len(got))
				}
			}
		}
	}
}

// TestParse: of Bytes the snapshot comes again, where its Index and Term may be; else it is ErrForm.
func TestParse(t *testing.T) {
	for _, index := range numbers() {
		for _, term := range numbers() {
			for _, conf := range []string{"", "c", strings.Repeat("k", 300)} {
				for _, body := range []string{"", "\x00\x01", strings.Repeat("b", 300)} {
					x := api.Snap{Mark: api.Mark{Index: index, Term: term}, Conf: []byte(conf), Body: []byte(body)}
					want, then := api.ErrForm, api.Snap{}
					if may(index) && may(term) {
						want, then = api.OK, x
					}
					if got, e := shelf.Parse(laid(x)); e != want || !same(got, then) {
						t.Fatalf("P6.1: Parse of (%d, %d) %q %q: %v, %d", index, term, conf, body, got, e)
					}
				}
			}
		}
	}
	for _, n := range []uint64{top, 1 << 62, 1 << 63, 1<<63 + 1, 1<<64 - 1, 1<<64 - top} {
		for _, b := range [][]byte{sealed(formed(n, 1, "", "")), sealed(formed(1, n, "", ""))} {
			if x, e := shelf.Parse(b); e != api.ErrForm || !zero(x) {
				t.Errorf("P6.1: Parse with a number of %d: %v, %d", n, x, e)
			}
		}
	}
}

// TestParseWrong: what isn't a snapshot's bytes, and the error that is the first.
func TestParseWrong(t *testing.T) {
	whole := laid(snap(5, 1, "abc"))
	form := whole[4:]
	for _, c := range []struct {
		what string
		b    []byte
		want api.Errno
	}{
		{"none", nil, api.ErrShort},
		{"no bytes", []byte{}, api.ErrShort},
		{"one", whole[:1], api.ErrShort},
		{"three", whole[:3], api.ErrShort},
		{"three of a sum of none", []byte{0, 0, 0}, api.ErrShort},
		{"a sum alone", whole[:4], api.ErrSum},
		{"the sum of none alone", []byte{0, 0, 0, 0}, api.ErrShort},
		{"no sum", form, api.ErrSum},
		{"a sum with its lowest byte first", slices.Concat([]byte{whole[3], whole[2], whole[1], whole[0]}, form), api.ErrSum},
		{"a sum behind it", slices.Concat(form, whole[:4]), api.ErrSum},
		{"a byte behind it", append(slices.Clone(whole), 0), api.ErrSum},
		{"a byte behind it that the sum knows", sealed(append(slices.Clone(form), 0)), api.ErrExtra},
		{"twice", sealed(slices.Concat(form, form)), api.ErrExtra},
		{"a byte behind it, and Index 0", sealed(append(formed(0, 1, "", ""), 7)), api.ErrExtra},
		{"cut, and Index 0", sealed(formed(0, 1, "", "x")[:5]), api.ErrShort},
		{"a number of nine bytes", sealed(append([]byte{9}, form...)), api.ErrForm},
		{"a number with a 0 ahead", sealed(slices.Concat([]byte{2, 0, 5}, form[2:])), api.ErrForm},
		{"fewer bytes than it says", sealed([]byte("\x01\x05\x01\x01\x01\x01c\x01\x04abc")), api.ErrShort},
		{"a Body alone", sealed([]byte("\x01\x05\x01\x01\x01\x03abc")), api.ErrShort},
		{"a row of three numbers", sealed([]byte{1, 5, 1, 1, 1, 1, 1, 1}), api.ErrShort},
		{"nothing but Index and Term", sealed([]byte{1, 5, 1, 1}), api.ErrShort},
		{"Index 0", sealed(formed(0, 1, "c", "b")), api.ErrForm},
		{"Term 0", sealed(formed(1, 0, "c", "b")), api.ErrForm},
		{"Index 10^10", sealed(formed(top, 1, "c", "b")), api.ErrForm},
		{"Term 10^10", sealed(formed(1, top, "c", "b")), api.ErrForm},
	} {
		b := slices.Clone(c.b)
		if x, e := shelf.Parse(b); e != c.want || !zero(x) {
			t.Errorf("P6.1: Parse of %s: %v, %d, not %d", c.what, x, e, c.want)
		}
		if !bytes.Equal(b, c.b) {
			t.Errorf("rule 5: Parse of %s changed it", c.what)
		}
	}
	for n := range form {
		if x, e := shelf.Parse(sealed(form[:n])); e != api.ErrShort || !zero(x) {
			t.Errorf("P6.1: Parse of the first %d bytes of a form: %v, %d", n, x, e)
		}
	}
	for n := range whole {
		if _, e := shelf.Parse(whole[:n]); e == api.OK {
			t.Errorf("P6.1: Parse of the first %d bytes", n)
		}
		for bit := range 8 {
			b := slices.Clone(whole)
			b[n] ^= 1 << bit
			if x, e := shelf.Parse(b); e != api.ErrSum || !zero(x) {
				t.Errorf("P6.1: Parse with bit %d of byte %d turned: %v, %d", bit, n, x, e)
			}
		}
	}
}

// TestFormMemory: what is handed in isn't changed, its spare room included, and answers are new memory.
func TestFormMemory(t *testing.T) {
	spare := []byte("cbxyz")
	x := api.Snap{Mark: api.Mark{Index: 1, Term: 1}, Conf: spare[:1], Body: spare[1:2]}
	b := shelf.Bytes(x)
	if string(spare) != "cbxyz" {
		t.Fatalf("rule 5: Bytes changed what was handed in: %s", spare)
	}
	want := slices.Clone(b)
	spare[0], spare[1] = 'X', 'X'
	if !bytes.Equal(b, want) {
		t.Error("rule 5: Bytes share memory with the snapshot")
	}
	room := append(slices.Clone(b), "spare"...)
	y, e := shelf.Parse(room[:len(b)])
	if e != api.OK || string(room[len(b):]) != "spare" {
		t.Fatalf("rule 5: Parse: %d, and behind it is %s", e, room[len(b):])
	}
	for i := range room {
		room[i] = 0xff
	}
	_ = append(y.Conf, "over"...)
	if string(y.Conf) != "c" || string(y.Body) != "b" {
		t.Errorf("rule 5: what Parse answered became %q, %q", y.Conf, y.Body)
	}
}

// FuzzParse: what Parse takes is what Bytes lay, and nothing else.
func FuzzParse(f *testing.F) {
	for i := range 40 {
		f.Add(laid(snap(i, 1+i/2, fmt.Sprint(i*i)))[4:])
	}
	f.Fuzz(func(t *testing.T, form []byte) {
		for _, b := range [][]byte{form, sealed(form)} {
			x, e := shelf.Parse(b)
			if e == api.OK && (!bytes.Equal(shelf.Bytes(x), b) || !may(x.Index) || !may(x.Term)) {
				t.Errorf("P6.1: Parse of %x: %v", b, x)
			}
			if e != api.OK && !zero(x) {
				t.Errorf("rule 2: Parse of %x: %v, %d", b, x, e)
			}
		}
	})
}
