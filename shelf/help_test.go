package shelf_test

import (
	"bytes"
	"fmt"
	"hash/crc32"
	"slices"
	"testing"

	"echelon/api"
	"echelon/disk"
	"echelon/shelf"
)

// top is what Indexes and Terms stay below.
const top = 10000000000

// aside is the file that is written ahead of a snapshot's own.
const aside = "snap-new"

// number is a number's form, laid without the layer that is called.
func number(n uint64) []byte {
	var b []byte
	for ; n > 0; n >>= 8 {
		b = append([]byte{byte(n)}, b...)
	}
	return append([]byte{byte(len(b))}, b...)
}

// formed is a row of two numbers and two texts, as they are formed.
func formed(index, term uint64, conf, body string) []byte {
	return slices.Concat(number(index), number(term), number(uint64(len(conf))), []byte(conf), number(uint64(len(body))), []byte(body))
}

// sealed is bytes with their sum ahead of them.
func sealed(b []byte) []byte {
	s := crc32.Checksum(b, crc32.MakeTable(crc32.Castagnoli))
	return append([]byte{byte(s >> 24), byte(s >> 16), byte(s >> 8), byte(s)}, b...)
}

// laid is a snapshot as it is laid.
func laid(x api.Snap) []byte {
	return sealed(formed(uint64(x.Index), uint64(x.Term), string(x.Conf), string(x.Body)))
}

// snap is a snapshot with a Conf of one byte: it has 13 bytes and its body's, or 12 without one, while its numbers are below 256 and none of them is 0.
func snap(index, term int, body string) api.Snap {
	return api.Snap{Mark: api.Mark{Index: index, Term: term}, Conf: []byte("c"), Body: []byte(body)}
}

// name is the name of a snapshot's file.
func name(index int) string { return fmt.Sprintf("snap-%010d", index) }

// space is an empty disk.
func space(t *testing.T, room int) *disk.Disk {
	t.Helper()
	d, e := disk.New(room)
	if d == nil || e != api.OK {
		t.Fatalf("P3.1: New(%d): %d", room, e)
	}
	return d
}

// lay is a file with these bytes, safe.
func lay(t *testing.T, d *disk.Disk, name string, b []byte) {
	t.Helper()
	if d.Append(name, b) != api.OK || d.Sync(name) != api.OK {
		t.Fatalf("P3.2: %s can't be laid", name)
	}
}

// tell is all of a disk that can be read: each file's bytes, a bar behind those that are safe, and what is free.
func tell(d *disk.Disk) string {
	s := ""
	for _, name := range d.Names() {
		b, _ := d.Read(name)
		n := d.Safe(name)
		s += fmt.Sprintf("%s=%x|%x ", name, b[:n], b[n:])
	}
	return s + fmt.Sprint(d.Free())
}

// kept holds what is on a disk against what was told of it.
func kept(t *testing.T, what string, d *disk.Disk, want string) {
	t.Helper()
	if got := tell(d); got != want {
		t.Fatalf("%s: there is\n%s, not\n%s", what, got, want)
	}
}

// files holds a disk's files, all of them safe, against what they are to be: names and bytes, one behind the other.
func files(t *testing.T, what string, d *disk.Disk, want ...string) {
	t.Helper()
	var got []string
	for _, name := range d.Names() {
		b, _ := d.Read(name)
		got = append(got, name, string(b))
		if d.Safe(name) != len(b) {
			t.Fatalf("%s: of %s's %d bytes %d are safe", what, name, len(b), d.Safe(name))
		}
	}
	if !slices.Equal(got, want) {
		t.Fatalf("%s: the files are\n%q, not\n%q", what, got, want)
	}
}

// open is a shelf that is opened without an error.
func open(t *testing.T, what string, d *disk.Disk) *shelf.Shelf {
	t.Helper()
	s, e := shelf.Open(d)
	if s == nil || e != api.OK {
		t.Fatalf("%s: Open: %v, %d", what, s, e)
	}
	return s
}

// is holds an answer against the one that is to come.
func is(t *testing.T, what string, got, want api.Errno) {
	t.Helper()
	if got != want {
		t.Fatalf("%s: %d, not %d", what, got, want)
	}
}

// same: are both one snapshot?
func same(a, b api.Snap) bool {
	return a.Mark == b.Mark && bytes.Equal(a.Conf, b.Conf) && bytes.Equal(a.Body, b.Body)
}

// zero: is it the zero snapshot, by nil or empty lists?
func zero(x api.Snap) bool { return same(x, api.Snap{}) }

// has holds all that a shelf tells against its newest.
func has(t *testing.T, what string, s *shelf.Shelf, want api.Snap) {
	t.Helper()
	if x, ok := s.Newest(); !ok || !same(x, want) {
		t.Fatalf("%s: Newest: %v, %t, not %v", what, x, ok, want)
	}
	for _, c := range []struct {
		index int
		want  bool
	}{
		{-1 << 63, true}, {-1, true}, {0, true}, {1, true},
		{want.Index - 1, true}, {want.Index, true}, {want.Index + 1, false}, {top, false}, {1<<63 - 1, false},
	} {
		if got := s.Has(c.index); got != c.want {
			t.Fatalf("%s: Has(%d): %t, and the newest is %v", what, c.index, got, want)
		}
	}
}

// hasNone holds all that a shelf tells against there being no newest.
func hasNone(t *testing.T, what string, s *shelf.Shelf) {
	t.Helper()
	if x, ok := s.Newest(); ok || !zero(x) {
		t.Fatalf("%s: Newest: %v, %t, and there is none", what, x, ok)
	}
	for _, index := range []int{-1 << 63, -1, 0, 1, 5, top, 1<<63 - 1} {
		if s.Has(index) {
			t.Fatalf("%s: Has(%d), and there is none", what, index)
		}
	}
}

// holds holds a shelf against its newest, or, if that is the zero one, against there being none.
func holds(t *testing.T, what string, s *shelf.Shelf, want api.Snap) {
	t.Helper()
	if zero(want) {
		hasNone(t, what, s)
		return
	}
	has(t, what, s, want)
}
