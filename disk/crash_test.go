package disk_test

import (
	"math"
	"testing"

	"echelon/api"
	"echelon/disk"
)

// change is one of the calls that a stop counts, done on a disk with the files a and b.
type change struct {
	name string
	do   func(d *disk.Disk) api.Errno
	want api.Errno
}

// changes are calls that are done, and such as answer each error.
func changes() []change {
	return []change{
		{"Append", func(d *disk.Disk) api.Errno { return d.Append("a", []byte("x")) }, api.OK},
		{"Append of nothing", func(d *disk.Disk) api.Errno { return d.Append("a") }, api.OK},
		{"Append to a new file", func(d *disk.Disk) api.Errno { return d.Append("c") }, api.OK},
		{"Append to no name", func(d *disk.Disk) api.Errno { return d.Append("") }, api.ErrName},
		{"Append of too much", func(d *disk.Disk) api.Errno { return d.Append("a", make([]byte, 999)) }, api.ErrFull},
		{"Sync", func(d *disk.Disk) api.Errno { return d.Sync("a") }, api.OK},
		{"Sync of none", func(d *disk.Disk) api.Errno { return d.Sync() }, api.OK},
		{"Sync of what isn't there", func(d *disk.Disk) api.Errno { return d.Sync("x") }, api.ErrName},
		{"Rename", func(d *disk.Disk) api.Errno { return d.Rename("a", "b") }, api.OK},
		{"Rename to itself", func(d *disk.Disk) api.Errno { return d.Rename("a", "a") }, api.OK},
		{"Rename of what isn't there", func(d *disk.Disk) api.Errno { return d.Rename("x", "a") }, api.ErrName},
		{"Rename to no name", func(d *disk.Disk) api.Errno { return d.Rename("a", "") }, api.ErrName},
		{"Remove", func(d *disk.Disk) api.Errno { return d.Remove("b", "a") }, api.OK},
		{"Remove of none", func(d *disk.Disk) api.Errno { return d.Remove() }, api.OK},
		{"Remove of what isn't there", func(d *disk.Disk) api.Errno { return d.Remove("x") }, api.ErrName},
		{"Remove of one twice", func(d *disk.Disk) api.Errno { return d.Remove("a", "a") }, api.ErrName},
		{"Cut", func(d *disk.Disk) api.Errno { return d.Cut("a", 1) }, api.OK},
		{"Cut of nothing", func(d *disk.Disk) api.Errno { return d.Cut("a", 4) }, api.OK},
		{"Cut of what isn't there", func(d *disk.Disk) api.Errno { return d.Cut("x", 1) }, api.ErrName},
		{"Cut to too many", func(d *disk.Disk) api.Errno { return d.Cut("a", 9) }, api.ErrArg},
	}
}

// two is a disk with the files a and b.
func two(t *testing.T) *disk.Disk {
	t.Helper()
	d := open(t, 20)
	lay(t, d, "a", "12", "34")
	lay(t, d, "b", "5", "678")
	return d
}

const twoStand = "a=12|34 b=5|678 12"

func TestStopAtOnce(t *testing.T) {
	for _, c := range changes() {
		d := two(t)
		d.Stop(0)
		for range 3 {
			want(t, "P3.4: stopped: "+c.name, c.do(d), api.ErrStop)
			stands(t, "P3.4: stopped: "+c.name, d, twoStand)
		}
		d.Stop(-1)
		want(t, "P3.4: no end any more: "+c.name, c.do(d), c.want)
	}
}

// TestStopBehindOne: each call is one that is done, whatever it answers, and just one.
func TestStopBehindOne(t *testing.T) {
	for _, c := range changes() {
		free, d := two(t), two(t)
		want(t, "P3.4: without a stop: "+c.name, c.do(free), c.want)
		d.Stop(1)
		want(t, "P3.4: the last call: "+c.name, c.do(d), c.want)
		stands(t, "P3.4: the last call: "+c.name, d, tell(free))
		want(t, "P3.4: behind "+c.name, d.Append("new"), api.ErrStop)
		d.Stop(2)
		c.do(d)
		want(t, "P3.4: one more behind "+c.name, d.Append("new"), api.OK)
		want(t, "P3.4: two more behind "+c.name, d.Append("new"), api.ErrStop)
	}
}

func TestStopBehindSo(t *testing.T) {
	for n := range 40 {
		d := two(t)
		d.Stop(n)
		done := 0
		for _, c := range append(changes(), changes()...) {
			if c.do(d) == api.ErrStop {
				break
			}
			done++
		}
		if done != n {
			t.Errorf("P3.4: Stop(%d), and %d calls were done", n, done)
		}
	}
}

// TestStopCounts: what reads, Stop and Name are no such calls, and are done behind the stop, too.
func TestStopCounts(t *testing.T) {
	d := two(t)
	d.Stop(1)
	for range 2 {
		for range 5 {
			stands(t, "P3.4: reading", d, twoStand)
			if _, ok := d.Read("x"); ok || d.Safe("x") != 0 || !disk.Name("a") {
				t.Fatal("P3.5: a file that isn't there")
			}
		}
		d.Append("a")
	}
	want(t, "P3.4: two calls were made", d.Append("a"), api.ErrStop)
}

// TestStopAnew: the newest Stop holds, whatever an elder one said.
func TestStopAnew(t *testing.T) {
	for _, elder := range []int{-1, 0, 1, 2, 9} {
		for n := range 4 {
			d := two(t)
			d.Stop(elder)
			d.Append("a")
			d.Stop(n)
			for range n {
				want(t, "P3.4: Stop anew", d.Append("a"), api.OK)
			}
			want(t, "P3.4: Stop anew", d.Append("a"), api.ErrStop)
		}
		for _, n := range []int{-1, -2, -5, math.MinInt, math.MaxInt} {
			d := two(t)
			d.Stop(elder)
			d.Append("a")
			d.Stop(n)
			for range 30 {
				want(t, "P3.4: no end", d.Append("a"), api.OK)
			}
		}
	}
}

// TestStopAheadOfAll: a stop is told ahead of all that is wrong with a call, a file too many and a great number too.
func TestStopAheadOfAll(t *testing.T) {
	d := full(t, 0)
	d.Stop(0)
	want(t, "P3.4: Append", d.Append("new", []byte("1")), api.ErrStop)
	want(t, "P3.4: Append", d.Append("NEW", []byte("1")), api.ErrStop)
	want(t, "P3.4: Cut", d.Cut("f0000", math.MinInt), api.ErrStop)
	want(t, "P3.4: Rename", d.Rename("", ""), api.ErrStop)
	if len(d.Names()) != 4096 {
		t.Errorf("P3.4: %d files", len(d.Names()))
	}
}

// TestCrashEndsStop: behind a crash there is no end, whether the stop was come to or not.
func TestCrashEndsStop(t *testing.T) {
	for _, n := range []int{-1, 0, 1, 2, 50} {
		d := two(t)
		d.Stop(n)
		d.Append("a")
		d.Append("a")
		d.Crash()
		for range 60 {
			want(t, "P3.4: behind a crash", d.Append("a"), api.OK)
		}
	}
}

func TestCrash(t *testing.T) {
	for _, c := range []struct {
		keep []int
		gone int
		all  string
	}{
		{nil, 6, "a=1| b=22| c=| d=333| 14"},
		{[]int{0}, 6, "a=1| b=22| c=| d=333| 14"},
		{[]int{1}, 5, "a=1x| b=22| c=| d=333| 13"},
		{[]int{2}, 4, "a=1xy| b=22| c=| d=333| 12"},
		{[]int{3}, 3, "a=1xyz| b=22| c=| d=333| 11"},
		{[]int{4}, 3, "a=1xyz| b=22| c=| d=333| 11"},
		{[]int{math.MaxInt}, 3, "a=1xyz| b=22| c=| d=333| 11"},
		{[]int{-1}, 6, "a=1| b=22| c=| d=333| 14"},
		{[]int{math.MinInt, 1}, 5, "a=1| b=22u| c=| d=333| 13"},
		{[]int{0, 2, 1}, 3, "a=1| b=22uv| c=w| d=333| 11"},
		{[]int{1, -9, 9}, 4, "a=1x| b=22| c=w| d=333| 12"},
		{[]int{9, 9, 9, 9}, 0, "a=1xyz| b=22uv| c=w| d=333| 8"},
		{[]int{2, 1, 0, -1, 7, 7, 7}, 3, "a=1xy| b=22u| c=| d=333| 11"}, // more than there are files
		{[]int{math.MaxInt, math.MaxInt, math.MaxInt, math.MaxInt, 5}, 0, "a=1xyz| b=22uv| c=w| d=333| 8"},
	} {
		d := open(t, 20)
		lay(t, d, "d", "333", "") // all of it is safe, and it has its place among the others
		lay(t, d, "b", "22", "uv")
		lay(t, d, "a", "1", "xyz")
		lay(t, d, "c", "", "w")
		if gone := d.Crash(c.keep...); gone != c.gone {
			t.Errorf("P3.4: Crash(%d): %d are gone, not %d", c.keep, gone, c.gone)
		}
		stands(t, "P3.4: behind a crash", d, c.all)
		if gone := d.Crash(c.keep...); gone != 0 {
			t.Errorf("P3.4: %d are gone, and all was safe", gone)
		}
		stands(t, "P3.4: behind another crash", d, c.all)
	}
}

// TestCrashPlaces: a file whose bytes are all safe has its place among those that keep speaks of.
func TestCrashPlaces(t *testing.T) {
	d := open(t, 20)
	lay(t, d, "a", "12", "")
	lay(t, d, "b", "", "")
	lay(t, d, "c", "3", "45")
	if gone := d.Crash(9, 9, 1); gone != 1 {
		t.Errorf("P3.4: %d are gone", gone)
	}
	stands(t, "P3.4", d, "a=12| b=| c=34| 16")
	if gone := open(t, 5).Crash(1, 2, 3); gone != 0 {
		t.Errorf("P3.4: %d are gone of no files", gone)
	}
}

// TestSafeAtOnce: that a file is there, is renamed, cut or removed outlives a crash without a Sync.
func TestSafeAtOnce(t *testing.T) {
	d := open(t, 40)
	for _, s := range []string{"a", "b", "c", "d"} {
		lay(t, d, s, "12", "34")
	}
	want(t, "Append", d.Append("new", []byte("x")), api.OK)
	want(t, "Rename", d.Rename("a", "e"), api.OK)
	want(t, "Rename", d.Rename("b", "c"), api.OK)
	want(t, "Cut", d.Cut("e", 1), api.OK)
	want(t, "Remove", d.Remove("d"), api.OK)
	stands(t, "P3.3", d, "c=12|34 e=1| new=|x 34")
	if gone := d.Crash(); gone != 3 {
		t.Errorf("P3.4: %d are gone", gone)
	}
	stands(t, "P3.4: safe at once", d, "c=12| e=1| new=| 37")
}

// TestRoomBehindCrash: what is gone is free again, to the last byte.
func TestRoomBehindCrash(t *testing.T) {
	d := open(t, 8)
	lay(t, d, "a", "12", "345678")
	want(t, "Append", d.Append("a", []byte("9")), api.ErrFull)
	if d.Crash(1) != 5 || d.Free() != 5 {
		t.Fatalf("P3.5: %d free", d.Free())
	}
	want(t, "P3.2: one byte too many", d.Append("b", []byte("123456")), api.ErrFull)
	want(t, "P3.2: what fits exactly", d.Append("b", []byte("12345")), api.OK)
	stands(t, "P3.4", d, "a=123| b=|12345 0")
}

func TestExample(t *testing.T) {
	d := open(t, 10)
	want(t, "example", d.Append("a", []byte("xyz")), api.OK)
	want(t, "example", d.Sync("a"), api.OK)
	want(t, "example", d.Append("a", []byte("uvw")), api.OK)
	want(t, "example", d.Append("b", []byte("12345")), api.ErrFull)
	if gone := d.Crash(1); gone != 2 {
		t.Errorf("example: %d are gone", gone)
	}
	stands(t, "example", d, "a=xyzu| 6")
	want(t, "example", d.Rename("a", "c"), api.OK)
	if _, ok := d.Read("a"); ok {
		t.Error("example: a is there")
	}
	want(t, "example", d.Cut("c", 9), api.ErrArg)
	want(t, "example", d.Remove("c", "c"), api.ErrName)
	d.Stop(1)
	want(t, "example", d.Append("c", []byte("1")), api.OK)
	want(t, "example", d.Append("c", []byte("2")), api.ErrStop)
}
