package members_test

import (
	"bytes"
	"slices"
	"testing"

	"echelon/api"
	"echelon/members"
	"echelon/mould"
)

// TestRight: what is a configuration, and what isn't one.
func TestRight(t *testing.T) {
	for _, c := range right() {
		if !members.Right(c) {
			t.Errorf("P8.1: Right(%v) is false", c)
		}
	}
	for _, c := range wrong() {
		if members.Right(c) {
			t.Errorf("P8.1: Right(%v)", c)
		}
	}
}

// TestRightNumbers: of a voter and a learner each the edges of what a number may be.
func TestRightNumbers(t *testing.T) {
	for _, a := range edges() {
		if members.Right(conf(ids(a), nil)) != may(a) {
			t.Errorf("P8.1: Right of the voter %d isn't %t", a, may(a))
		}
		for _, b := range edges() {
			ok := may(a) && may(b)
			if members.Right(conf(ids(a), ids(b))) != (ok && a != b) {
				t.Errorf("P8.1: Right of the voter %d, the learner %d isn't %t", a, b, ok && a != b)
			}
			if members.Right(conf(ids(a, b), nil)) != (ok && a < b) || members.Right(conf(ids(3), ids(a, b))) != (ok && a < b) {
				t.Errorf("P8.1: Right of %d and %d as voters, or as learners, isn't %t", a, b, ok && a < b)
			}
		}
	}
}

// TestRightSizes: at most MaxPeers in all, and one voter at least.
func TestRightSizes(t *testing.T) {
	for v := range 13 {
		for l := range 13 {
			c := conf(row(100, v), row(0, l))
			if want := v >= 1 && v+l <= mostPeers; members.Right(c) != want {
				t.Errorf("P8.1: Right of %d voters and %d learners isn't %t", v, l, want)
			}
		}
	}
}

// TestRightOfSeveral: each has to be one, wherever it stands.
func TestRightOfSeveral(t *testing.T) {
	if !members.Right() || !members.Right(right()...) || !members.Right(conf(ids(1), nil), conf(ids(1), nil)) {
		t.Error("P8.1: Right of none, or of right ones")
	}
	for _, c := range wrong() {
		for at := range 4 {
			cs := slices.Insert(full(3)[:3], at, c)
			if members.Right(cs...) {
				t.Errorf("P8.1: Right(%v)", cs)
			}
		}
	}
}

// TestForms: the bytes of a configuration are those of its row; also of what isn't one, its numbers modulo 2^64.
func TestForms(t *testing.T) {
	for _, x := range []struct {
		c    api.Conf
		want string
		e    api.Errno
	}{
		{conf(ids(1), nil), "\x01\x01\x01\x01\x00", api.OK},
		{conf(ids(0), nil), "\x01\x01\x00\x00", api.OK},
		{conf(ids(1, 2, 3), ids(5)), "\x01\x03\x01\x01\x01\x02\x01\x03\x01\x01\x01\x05", api.OK},
		{conf(ids(0, 255, 256), ids(65535, 65536, top-1)), "\x01\x03\x00\x01\xff\x02\x01\x00\x01\x03\x02\xff\xff\x03\x01\x00\x00\x03\x0f\xff\xff", api.OK},
		{conf(row(1, 9), nil), "\x01\x09\x01\x01\x01\x02\x01\x03\x01\x04\x01\x05\x01\x06\x01\x07\x01\x08\x01\x09\x00", api.OK},
		{conf(row(1, 10), nil), "\x01\x0a\x01\x01\x01\x02\x01\x03\x01\x04\x01\x05\x01\x06\x01\x07\x01\x08\x01\x09\x01\x0a\x00", api.ErrConf},
		{api.Conf{}, "\x00\x00", api.ErrConf},
		{conf(nil, ids(3)), "\x00\x01\x01\x01\x03", api.ErrConf},
		{conf(ids(2, 1, 1), ids(2)), "\x01\x03\x01\x02\x01\x01\x01\x01\x01\x01\x01\x02", api.ErrConf},
		{conf(ids(top), nil), "\x01\x01\x03\x10\x00\x00\x00", api.ErrConf},
		{conf(ids(1<<32+1), nil), "\x01\x01\x05\x01\x00\x00\x00\x01\x00", api.ErrConf},
		{conf(ids(-1), nil), "\x01\x01\x08\xff\xff\xff\xff\xff\xff\xff\xff\x00", api.ErrConf},
		{conf(ids(1), ids(-1)), "\x01\x01\x01\x01\x01\x01\x08\xff\xff\xff\xff\xff\xff\xff\xff", api.ErrConf},
		{conf(ids(-1<<63), nil), "\x01\x01\x08\x80\x00\x00\x00\x00\x00\x00\x00\x00", api.ErrConf},
		{conf(ids(1<<63-1), nil), "\x01\x01\x08\x7f\xff\xff\xff\xff\xff\xff\xff\x00", api.ErrConf},
		{conf(ids(-1<<63+1), nil), "\x01\x01\x08\x80\x00\x00\x00\x00\x00\x00\x01\x00", api.ErrConf},
	} {
		if b := members.Bytes(x.c); string(b) != x.want {
			t.Errorf("P8.1: Bytes(%v): %x, not %x", x.c, b, x.want)
		}
		parses(t, "P8.1", []byte(x.want), x.c, x.e)
	}
}

// TestBytesOfRow: the bytes are what layer 1 lays for the row of the numbers.
func TestBytesOfRow(t *testing.T) {
	list := func(ns []int) (v api.Val) {
		for _, n := range ns {
			v.L = append(v.L, api.Val{N: uint64(n)})
		}
		return v
	}
	for _, c := range append(right(), wrong()...) {
		want, _ := mould.Put("[*n*n]", api.Val{L: []api.Val{list(c.Voters), list(c.Learners)}})
		if b := members.Bytes(c); !bytes.Equal(b, want) {
			t.Errorf("P8.1: Bytes(%v): %x, not %x", c, b, want)
		}
	}
}

// TestParse: the bytes of a configuration are its own, those of what isn't one are none's, and so are bytes that are cut off, or have something behind them.
func TestParse(t *testing.T) {
	for _, c := range right() {
		b := members.Bytes(c)
		parses(t, "P8.1", b, c, api.OK)
		for n := range b {
			parses(t, "P8.1: cut off", b[:n], c, api.ErrShort)
		}
		for _, more := range []string{"\x00", "\x09", "\x01\x01", "\xff", string(b)} {
			parses(t, "P8.1: something behind", append(slices.Clone(b), more...), c, api.ErrExtra)
		}
	}
	for _, c := range wrong() {
		b := members.Bytes(c)
		parses(t, "P8.1: not a configuration", b, c, api.ErrConf)
		for n := range b {
			parses(t, "P8.1: cut off, and not a configuration", b[:n], c, api.ErrShort)
		}
		parses(t, "P8.1: something behind, and not a configuration", append(b, 0), c, api.ErrExtra)
	}
}

// TestParseForms: bytes that aren't the one form of a row, each fault in its place; what isn't a configuration is told last.
func TestParseForms(t *testing.T) {
	for _, x := range []struct {
		b string
		e api.Errno
	}{
		{"", api.ErrShort}, {"\x00", api.ErrShort}, {"\x01", api.ErrShort}, {"\x08", api.ErrShort},
		{"\x09", api.ErrForm}, {"\xff", api.ErrForm},
		{"\x01\x00", api.ErrForm}, {"\x02\x00\x01\x01\x01\x00", api.ErrForm}, // a count with a 0 ahead
		{"\x01\x01\x01\x00\x00", api.ErrForm}, {"\x01\x01\x02\x00\x05\x00", api.ErrForm}, {"\x01\x01\x09\x00\x00\x00\x00\x00\x00\x00\x00\x01\x00", api.ErrForm}, // a voter
		{"\x01\x01\x01\x05\x01\x00", api.ErrForm}, {"\x01\x01\x01\x05\x09", api.ErrForm}, // the learners' count
		{"\x01\x01\x01\x05\x01\x01\x01\x00", api.ErrForm}, {"\x01\x01\x01\x05\x01\x01\x0a", api.ErrForm}, // a learner
		{"\x01\x02\x01\x05", api.ErrShort}, {"\x01\x02\x00\x00", api.ErrShort}, {"\x01\x05\x00\x00\x00\x00", api.ErrShort}, // a count of more than there are
		{"\x08\xff\xff\xff\xff\xff\xff\xff\xff\x00\x00", api.ErrShort}, {"\x00\x08\x80\x00\x00\x00\x00\x00\x00\x00\x00\x00", api.ErrShort},
		{"\x00\x00\x00", api.ErrExtra}, {"\x00\x00\x09", api.ErrExtra}, {"\x01\x01\x01\x05\x00\x00", api.ErrExtra},
		{"\x01\x02\x00\x00\x00", api.ErrConf}, {"\x01\x02\x00\x00\x00\x00", api.ErrExtra}, {"\x01\x02\x00\x00\x09", api.ErrForm},
		{"\x01\x01\x08\x00\x00\x00\x00\x00\x00\x00\x01\x00", api.ErrForm}, {"\x01\x01\x08\x01\x00\x00\x00\x00\x00\x00\x01\x00", api.ErrConf},
		{"\x00\x00", api.ErrConf}, {"\x01\x01\x01\x05\x01\x01\x01\x05", api.ErrConf},
	} {
		parses(t, "P8.1", []byte(x.b), api.Conf{}, x.e)
	}
}

// TestParseShort goes through all short texts of some bytes: layer 1's error, or the configuration whose bytes they are, or ErrConf.
func TestParseShort(t *testing.T) {
	texts, oks := []string{""}, 0
	for from := 0; from < len(texts); from++ {
		b := texts[from]
		_, want := mould.Take("[*n*n]", []byte(b))
		c, e := members.Parse([]byte(b))
		if want == api.OK && !members.Right(c) {
			want = api.ErrConf
		}
		if e != want || e != api.OK && !same(c, api.Conf{}) {
			t.Fatalf("P8.1: Parse(%x): %v, %d, not %d", b, c, e, want)
		}
		if e == api.OK {
			oks++
			if string(members.Bytes(c)) != b {
				t.Fatalf("P8.1: Parse(%x): %v, whose bytes are %x", b, c, members.Bytes(c))
			}
		}
		if len(b) < 7 {
			for _, x := range "\x00\x01\x02\x03\x09" {
				texts = append(texts, b+string(x))
			}
		}
	}
	if oks < 20 {
		t.Errorf("only %d texts are configurations", oks)
	}
}

// FuzzParse: whatever bytes come, Parse ends, and what it answers has them as its bytes.
func FuzzParse(f *testing.F) {
	f.Add([]byte("\x01\x03\x01\x01\x01\x02\x01\x03\x01\x01\x01\x05"))
	f.Fuzz(func(t *testing.T, b []byte) {
		_, want := mould.Take("[*n*n]", b)
		c, e := members.Parse(b)
		if want == api.OK && e == api.ErrConf {
			want = e
		}
		if e != want || members.Right(c) != (e == api.OK) || e == api.OK && !bytes.Equal(members.Bytes(c), b) {
			t.Fatalf("P8.1: Parse(%x): %v, %d", b, c, e)
		}
	})
}
