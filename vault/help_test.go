package vault_test

import (
	"bytes"
	"fmt"
	"math"
	"slices"
	"testing"

	"echelon/api"
	"echelon/disk"
	"echelon/vault"
)

// top is what Indexes and Terms stay below.
const top = 10000000000

// nobody is the state of a disk without slots.
var nobody = state(0, -1)

func state(term, vote int) api.State { return api.State{Term: term, Vote: vote} }

func mark(index, term int) api.Mark { return api.Mark{Index: index, Term: term} }

// at is an entry with a body of one byte: its row has 17 bytes, while its numbers are below 256.
func at(index, term int) api.Entry {
	return api.Entry{Index: index, Term: term, Kind: api.KindBody, Body: []byte{byte(16*term + index)}}
}

// run is entries of these Terms, one behind the other, from an Index on.
func run(index int, terms ...int) []api.Entry {
	var es []api.Entry
	for i, term := range terms {
		es = append(es, at(index+i, term))
	}
	return es
}

// snap is a snapshot: it has 16 bytes, while its numbers are below 256.
func snap(index, term int) api.Snap {
	return api.Snap{Mark: mark(index, term), Conf: []byte("c"), Body: []byte{byte(index), 's', byte(term)}}
}

// slot, seg and name are files of the three layers.
func slot(n int) string     { return fmt.Sprintf("hard-%d", n) }
func seg(first int) string  { return fmt.Sprintf("seg-%010d", first) }
func name(index int) string { return fmt.Sprintf("snap-%010d", index) }

// space is an empty disk.
func space(t *testing.T, room int) *disk.Disk {
	t.Helper()
	d, e := disk.New(room)
	if d == nil || e != api.OK {
		t.Fatalf("P3.1: New(%d): %d", room, e)
	}
	return d
}

// open is a vault that is opened without an error.
func open(t *testing.T, what string, d *disk.Disk, size int) *vault.Vault {
	t.Helper()
	v, e := vault.Open(d, size)
	if v == nil || e != api.OK {
		t.Fatalf("%s: Open with size %d: %v, %d", what, size, v, e)
	}
	return v
}

// opened is a vault that has what it is to have, all of it safe; its disk has nothing else.
func opened(t *testing.T, size int, p plain) (*vault.Vault, *disk.Disk) {
	t.Helper()
	d := space(t, 9999)
	v := open(t, "P11.1", d, size)
	if p.snap.Index > 0 {
		is(t, "P11.3: Install", v.Install(p.snap), api.OK)
	}
	is(t, "P11.2: Keep", v.Keep(p.state, 0, p.log...), api.OK)
	holds(t, "P11.2: Keep", v, p)
	return v, d
}

// is holds an answer against the one that is to come.
func is(t *testing.T, what string, got, want api.Errno) {
	t.Helper()
	if got != want {
		t.Fatalf("%s: %d, not %d", what, got, want)
	}
}

// tell is all of a disk that can be read: each file's bytes, a bar behind those that are safe, and what is free.
func tell(d *disk.Disk) string {
	s := ""
	for _, file := range d.Names() {
		b, _ := d.Read(file)
		n := d.Safe(file)
		s += fmt.Sprintf("%s=%x|%x ", file, b[:n], b[n:])
	}
	return s + fmt.Sprint(d.Free())
}

// sameEntry: are both one entry?
func sameEntry(a, b api.Entry) bool {
	return a.Index == b.Index && a.Term == b.Term && a.Kind == b.Kind && bytes.Equal(a.Body, b.Body)
}

// sameSnap: are both one snapshot?
func sameSnap(a, b api.Snap) bool {
	return a.Mark == b.Mark && bytes.Equal(a.Conf, b.Conf) && bytes.Equal(a.Body, b.Body)
}

// has is what a vault has, by what it tells.
func has(v *vault.Vault) plain {
	x, _ := v.Newest()
	return plain{v.State, x, v.From(v.Mark().Index+1, math.MaxInt)}
}

// same: is it the same that both have?
func (p plain) same(q plain) bool {
	return p.state == q.state && sameSnap(p.snap, q.snap) && slices.EqualFunc(p.log, q.log, sameEntry)
}

// differs tells in what a vault isn't as it is to be; nothing, if it is.
func differs(v *vault.Vault, want plain) string {
	got := has(v)
	if _, ok := v.Newest(); !got.same(want) || ok != (want.snap.Index > 0) {
		return fmt.Sprintf("it has %v, %t, not %v", got, ok, want)
	}
	if v.Vote != want.state.Vote || v.Hard.Term != want.state.Term {
		return fmt.Sprintf("it has the term %d and the vote %d", v.Hard.Term, v.Vote)
	}
	if v.Mark() != want.snap.Mark || v.Last() != want.last() {
		return fmt.Sprintf("Mark %v, Last %v, not %v, %v", v.Mark(), v.Last(), want.snap.Mark, want.last())
	}
	for i := want.snap.Index - 2; i <= want.last().Index+2; i++ {
		e, there := want.entry(i)
		term, known := e.Term, there
		if i == want.snap.Index {
			term, known = want.snap.Term, true
		}
		if n, ok := v.Term(i); n != term || ok != known {
			return fmt.Sprintf("Term(%d): %d, %t, not %d, %t", i, n, ok, term, known)
		}
		if got, ok := v.At(i); ok != there || !sameEntry(got, e) {
			return fmt.Sprintf("At(%d): %v, %t, not %v, %t", i, got, ok, e, there)
		}
		if v.Shelf.Has(i) != (want.snap.Index > 0 && i <= want.snap.Index) {
			return fmt.Sprintf("Has(%d), and its snapshot is at %d", i, want.snap.Index)
		}
	}
	return ""
}

// holds holds all that a vault tells against what it is to have, all of which is synced.
func holds(t *testing.T, what string, v *vault.Vault, want plain) {
	t.Helper()
	if s := differs(v, want); s != "" {
		t.Fatalf("%s: %s", what, s)
	}
	if v.Synced() != want.last().Index {
		t.Fatalf("%s: synced up to %d of %d", what, v.Synced(), want.last().Index)
	}
}

// outlives holds what is there behind a crash that keeps nothing against what is to be.
func outlives(t *testing.T, what string, d *disk.Disk, size int, want plain) *vault.Vault {
	t.Helper()
	d.Crash()
	v := open(t, what+", behind a crash", d, size)
	holds(t, what+", behind a crash", v, want)
	return v
}
