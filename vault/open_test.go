package vault_test

import (
	"fmt"
	"math"
	"slices"
	"testing"

	"echelon/api"
	"echelon/disk"
	"echelon/vault"
)

// TestOpenNew: of a disk without files a vault has nobody's vote, no snapshot and no entry; nothing is written.
func TestOpenNew(t *testing.T) {
	for _, size := range []int{1, 2, 50, math.MaxInt} {
		for _, room := range []int{0, 1, 999} {
			d := space(t, room)
			d.Stop(0)
			v := open(t, "P11.1: a new disk, stopped", d, size)
			holds(t, "P11.1: a new disk", v, plain{state: nobody})
			if got := tell(d); got != fmt.Sprint(room) {
				t.Fatalf("P11.1: a new disk has %s", got)
			}
		}
	}
}

// TestOpenErrors: of several errors the one that the chapter names first, and no vault.
func TestOpenErrors(t *testing.T) {
	torn := func() *disk.Disk {
		_, d := opened(t, 1, plain{state(2, 1), snap(2, 1), run(3, 1, 1, 2)})
		spoil(t, d, name(2))
		spoil(t, d, seg(4))
		spoil(t, d, slot(0))
		return d
	}
	for _, size := range []int{math.MinInt, -1, 0} {
		if v, e := vault.Open(nil, size); v != nil || e != api.ErrNil {
			t.Fatalf("P11.1: no disk, size %d: %v, %d", size, v, e)
		}
		for _, d := range []*disk.Disk{space(t, 9), torn()} {
			d.Stop(0)
			all := tell(d)
			if v, e := vault.Open(d, size); v != nil || e != api.ErrArg {
				t.Fatalf("P11.1: size %d: %v, %d", size, v, e)
			}
			if got := tell(d); got != all {
				t.Fatalf("P11.1: size %d: there is %s, not %s", size, got, all)
			}
		}
	}
	if v, e := vault.Open(nil, 50); v != nil || e != api.ErrNil {
		t.Fatalf("P11.1: no disk: %v, %d", v, e)
	}
	// The log's segments don't fit, once the snapshot is torn: there are three, each of which is removed.
	for n := range 5 {
		d := torn()
		d.Stop(n)
		v, e := vault.Open(d, 1)
		if n < 3 && (v != nil || e != api.ErrStop) || n >= 3 && (v == nil || e != api.OK) {
			t.Fatalf("P11.1: Stop(%d): %v, %d", n, v, e)
		}
		outlives(t, fmt.Sprintf("P11.4: Stop(%d) in Open", n), d, 1, plain{state: nobody})
	}
}

// spoil turns a bit of a file's last byte.
func spoil(t *testing.T, d *disk.Disk, file string) {
	t.Helper()
	b, ok := d.Read(file)
	if !ok || len(b) == 0 {
		t.Fatalf("%s isn't there: %q", file, d.Names())
	}
	b[len(b)-1] ^= 1
	is(t, "P3.3", d.Remove(file), api.OK)
	is(t, "P3.2", d.Append(file, b), api.OK)
	is(t, "P3.2", d.Sync(file), api.OK)
}

// TestOpenTorn: what is torn of a disk, each alone and several at once: what is whole of it a vault has.
func TestOpenTorn(t *testing.T) {
	for _, size := range []int{1, 18, 35, 999} {
		for torn := range 16 {
			p := plain{state(3, 1), snap(4, 1), run(5, 1, 2, 3)}
			v, d := opened(t, size, plain{state(3, -1), snap(2, 1), run(3, 1, 1, 1, 2, 3)})
			is(t, "P11.2", v.Keep(state(3, 1), 0), api.OK)
			// An elder snapshot stays, by the shelf's own Put; the log is as it was.
			is(t, "P6.3", v.Put(snap(4, 1)), api.OK)
			if torn&1 > 0 {
				spoil(t, d, name(4))
				p.snap, p.log = snap(2, 1), run(3, 1, 1, 1, 2, 3)
			}
			if torn&2 > 0 {
				spoil(t, d, name(2))
				if torn&1 > 0 {
					p.snap, p.log = api.Snap{}, nil
				}
			}
			if torn&4 > 0 {
				spoil(t, d, lastSeg(d))
				p.log = p.ahead(firstOf(t, d))
			}
			if torn&8 > 0 {
				spoil(t, d, slot(1))
				p.state = state(3, -1)
			}
			what := fmt.Sprintf("P11.1: size %d, torn %b", size, torn)
			v = open(t, what, d, size)
			holds(t, what, v, p)
			v = outlives(t, what, d, size, p)
			next := at(p.last().Index+1, 9)
			is(t, what+": and on", v.Keep(state(9, 2), 0, next), api.OK)
			outlives(t, what+": and on", d, size, plain{state(9, 2), p.snap, append(p.log, next)})
		}
	}
}

// lastSeg is the name of a disk's last segment.
func lastSeg(d *disk.Disk) string {
	names := slices.DeleteFunc(d.Names(), func(s string) bool { return s[:4] != "seg-" })
	return names[len(names)-1]
}

// firstOf is the Index of the entry whose row is the last one of a disk's last segment: rows have 17 bytes.
func firstOf(t *testing.T, d *disk.Disk) int {
	t.Helper()
	s := lastSeg(d)
	first := 0
	if _, e := fmt.Sscanf(s, "seg-%d", &first); e != nil {
		t.Fatal(e)
	}
	b, _ := d.Read(s)
	return first + len(b)/17 - 1
}

// TestOpenLayers: what is promoted of a vault is the layers' own.
func TestOpenLayers(t *testing.T) {
	v, _ := opened(t, 50, plain{state(4, 2), snap(2, 1), run(3, 1, 2)})
	if v.Hard.State != v.State || v.Vote != 2 || v.State.Term != 4 {
		t.Errorf("P11.1: it has the state %v, and its Hard %v", v.State, v.Hard.State)
	}
	if n, ok := v.Term(4); n != 2 || !ok {
		t.Errorf("P11.1: Term(4) is the log's: %d, %t", n, ok)
	}
	if v.Log.Last() != v.Last() || v.Log.Mark() != v.Mark() || v.Synced() != 4 {
		t.Errorf("P11.1: the log's Last is %v, Mark %v, Synced %d", v.Last(), v.Mark(), v.Synced())
	}
	x, ok := v.Newest()
	y, too := v.Shelf.Newest()
	if !ok || !too || !sameSnap(x, y) || !v.Has(2) || v.Has(3) {
		t.Errorf("P11.1: the newest is %v, of its Shelf %v", x, y)
	}
}
