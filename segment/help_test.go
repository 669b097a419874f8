package segment_test

import (
	"bytes"
	"fmt"
	"hash/crc32"
	"slices"
	"testing"

	"echelon/api"
	"echelon/disk"
	"echelon/segment"
)

// top is what Indexes and Terms stay below.
const top = 10000000000

// number is a number's form, laid without the layer that is called.
func number(n uint64) []byte {
	var b []byte
	for ; n > 0; n >>= 8 {
		b = append([]byte{byte(n)}, b...)
	}
	return append([]byte{byte(len(b))}, b...)
}

// word is four bytes, the greatest first.
func word(x int) []byte {
	return []byte{byte(x >> 24), byte(x >> 16), byte(x >> 8), byte(x)}
}

// sealed is bytes with their sum ahead of them.
func sealed(bs ...[]byte) []byte {
	b := slices.Concat(bs...)
	return append(word(int(crc32.Checksum(b, crc32.MakeTable(crc32.Castagnoli)))), b...)
}

// formed is a row of numbers and a body, as they are formed.
func formed(body string, ns ...uint64) []byte {
	var b []byte
	for _, n := range ns {
		b = append(b, number(n)...)
	}
	return append(append(b, number(uint64(len(body)))...), body...)
}

// rowed is a form with its length and its sum.
func rowed(form []byte) []byte { return sealed(word(len(form)), form) }

// rows are entries as they are laid.
func rows(es ...api.Entry) []byte {
	var b []byte
	for _, e := range es {
		b = append(b, rowed(formed(string(e.Body), uint64(e.Index), uint64(e.Term), uint64(e.Kind)))...)
	}
	return b
}

// at is an entry; its row has 16 bytes and its body's, while its numbers are below 256 and none of them is 0.
func at(index, term int, body ...byte) api.Entry {
	return api.Entry{Index: index, Term: term, Kind: 1, Body: body}
}

// some are entries from an Index to another one, of a Term, with a byte each: their rows have 17.
func some(from, to, term int) []api.Entry {
	var es []api.Entry
	for i := from; i <= to; i++ {
		es = append(es, at(i, term, byte(i)))
	}
	return es
}

// mark is a place and the Term there.
func mark(index, term int) api.Mark { return api.Mark{Index: index, Term: term} }

// seg is a segment's name.
func seg(first int) string { return fmt.Sprintf("seg-%010d", first) }

// space is an empty disk.
func space(t *testing.T, room int) *disk.Disk {
	t.Helper()
	d, e := disk.New(room)
	if d == nil || e != api.OK {
		t.Fatalf("P3.1: New(%d): %d", room, e)
	}
	return d
}

// lay is a file with these bytes, safe.
func lay(t *testing.T, d *disk.Disk, name string, b []byte) {
	t.Helper()
	if d.Append(name, b) != api.OK || d.Sync(name) != api.OK {
		t.Fatalf("P3.2: %s can't be laid", name)
	}
}

// tell is all of a disk that can be read: each file's bytes, a bar behind those that are safe, and what is free.
func tell(d *disk.Disk) string {
	s := ""
	for _, name := range d.Names() {
		b, _ := d.Read(name)
		n := d.Safe(name)
		s += fmt.Sprintf("%s=%x|%x ", name, b[:n], b[n:])
	}
	return s + fmt.Sprint(d.Free())
}

// open is a log that is opened without an error.
func open(t *testing.T, what string, d *disk.Disk, m api.Mark, size int) *segment.Log {
	t.Helper()
	l, e := segment.Open(d, m, size)
	if l == nil || e != api.OK {
		t.Fatalf("%s: Open(%v, %d): %v, %d", what, m, size, l, e)
	}
	return l
}

// is holds an answer against the one that is to come.
func is(t *testing.T, what string, got, want api.Errno) {
	t.Helper()
	if got != want {
		t.Fatalf("%s: %d, not %d", what, got, want)
	}
}

// same: are both one entry?
func same(a, b api.Entry) bool {
	return a.Index == b.Index && a.Term == b.Term && a.Kind == b.Kind && bytes.Equal(a.Body, b.Body)
}

// has holds all that a log tells against its mark, its entries, and up to where they are synced.
func has(t *testing.T, what string, l *segment.Log, m api.Mark, synced int, es ...api.Entry) {
	t.Helper()
	last := m
	if n := len(es); n > 0 {
		last = mark(es[n-1].Index, es[n-1].Term)
	}
	if l.Mark() != m || l.Last() != last || l.Synced() != synced {
		t.Fatalf("%s: Mark %v, Last %v, Synced %d, not %v, %v, %d", what, l.Mark(), l.Last(), l.Synced(), m, last, synced)
	}
	for i := m.Index - 3; i <= last.Index+3; i++ {
		hasAt(t, what, l, m, i, es)
	}
}

// hasAt holds what a log tells of an Index against its entries.
func hasAt(t *testing.T, what string, l *segment.Log, m api.Mark, i int, es []api.Entry) {
	t.Helper()
	var want api.Entry
	var rest []api.Entry
	there := false
	for j, e := range es {
		if e.Index == i {
			want, rest, there = e, es[j:], true
		}
	}
	if e, ok := l.At(i); ok != there || !same(e, want) {
		t.Fatalf("%s: At(%d): %v, %t, not %v, %t", what, i, e, ok, want, there)
	}
	term, known := want.Term, there
	if i == m.Index {
		term, known = m.Term, true
	}
	if n, ok := l.Term(i); n != term || ok != known {
		t.Fatalf("%s: Term(%d): %d, %t, not %d, %t", what, i, n, ok, term, known)
	}
	for _, most := range []int{-1, 0, 1, 2, len(rest), 1 << 62} {
		if got := l.From(i, most); !slices.EqualFunc(got, rest[:min(max(most, 0), len(rest))], same) {
			t.Fatalf("%s: From(%d, %d): %v of %v", what, i, most, got, rest)
		}
	}
}

// files holds a disk's files, all of them safe, against what they are to be: names and bytes, one behind the other.
func files(t *testing.T, what string, d *disk.Disk, want ...string) {
	t.Helper()
	var got []string
	for _, name := range d.Names() {
		b, _ := d.Read(name)
		got = append(got, name, string(b))
		if d.Safe(name) != len(b) {
			t.Fatalf("%s: of %s's %d bytes %d are safe", what, name, len(b), d.Safe(name))
		}
	}
	if !slices.Equal(got, want) {
		t.Fatalf("%s: the files are\n%q, not\n%q", what, got, want)
	}
}

// named holds the names of a disk's files against those that are to be there.
func named(t *testing.T, what string, d *disk.Disk, want ...string) {
	t.Helper()
	if got := d.Names(); !slices.Equal(got, want) {
		t.Fatalf("%s: the files are %q, not %q", what, got, want)
	}
}
