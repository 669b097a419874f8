package disk_test

import (
	"fmt"
	"math"
	"slices"
	"strings"
	"testing"

	"echelon/api"
	"echelon/disk"
)

// open is an empty disk with that room.
func open(t *testing.T, room int) *disk.Disk {
	t.Helper()
	d, e := disk.New(room)
	if d == nil || e != api.OK {
		t.Fatalf("P3.1: New(%d): %v, %d", room, d, e)
	}
	return d
}

// lay appends bytes, of which the first ones are safe.
func lay(t *testing.T, d *disk.Disk, name, safe, loose string) {
	t.Helper()
	want(t, "Append", d.Append(name, []byte(safe)), api.OK)
	want(t, "Sync", d.Sync(name), api.OK)
	want(t, "Append", d.Append(name, []byte(loose)), api.OK)
}

// want holds an error against the one that is to come.
func want(t *testing.T, what string, got, e api.Errno) {
	t.Helper()
	if got != e {
		t.Fatalf("%s: %d, not %d", what, got, e)
	}
}

// tell is all of a disk that can be read: each file's bytes, a bar behind those that are safe, and what is free.
func tell(d *disk.Disk) string {
	s := ""
	for _, name := range d.Names() {
		b, ok := d.Read(name)
		n := d.Safe(name)
		if !ok || n < 0 || n > len(b) {
			return fmt.Sprintf("%s isn't right: %q, %t, %d safe", name, b, ok, n)
		}
		s += fmt.Sprintf("%s=%s|%s ", name, b[:n], b[n:])
	}
	return s + fmt.Sprint(d.Free())
}

// stands holds all of a disk against what is to be there.
func stands(t *testing.T, what string, d *disk.Disk, all string) {
	t.Helper()
	if got := tell(d); got != all {
		t.Fatalf("%s: there is %q, not %q", what, got, all)
	}
}

func TestNew(t *testing.T) {
	for _, room := range []int{0, 1, 10, 1 << 40, math.MaxInt} {
		d := open(t, room)
		stands(t, "P3.1: a new disk", d, fmt.Sprint(room))
		if len(d.Names()) != 0 {
			t.Errorf("P3.1: files on a new disk: %q", d.Names())
		}
	}
	for _, room := range []int{-1, -2, math.MinInt} {
		if d, e := disk.New(room); d != nil || e != api.ErrArg {
			t.Errorf("P3.1: New(%d): %v, %d", room, d, e)
		}
	}
}

// TestDisksApart: what becomes of a disk doesn't touch another one.
func TestDisksApart(t *testing.T) {
	a, b := open(t, 10), open(t, 10)
	lay(t, a, "a", "12", "34")
	stands(t, "P3.1: another disk", b, "10")
	a.Stop(0)
	want(t, "P3.4: another disk's stop", b.Append("b"), api.OK)
	stands(t, "P3.1: the first disk", a, "a=12|34 6")
}

func TestNameBytes(t *testing.T) {
	const right = "abcdefghijklmnopqrstuvwxyz0123456789-."
	for c := range 256 {
		s, is := string([]byte{byte(c)}), strings.IndexByte(right, byte(c)) >= 0
		for _, name := range []string{s, "a" + s, s + "a", "a" + s + "a", strings.Repeat("a", 31) + s} {
			if disk.Name(name) != is {
				t.Errorf("P3.1: Name(%q) is %t", name, !is)
			}
		}
	}
	for _, s := range []string{"é", "a\u00e9", "\u0131", "\U0001d41a", "a/b", "A", "a_b"} {
		if disk.Name(s) {
			t.Errorf("P3.1: Name(%q)", s)
		}
	}
}

func TestNameLengths(t *testing.T) {
	for n := range 70 {
		if got := disk.Name(strings.Repeat("x", n)); got != (n >= 1 && n <= 32) {
			t.Errorf("P3.1: Name of %d bytes: %t", n, got)
		}
	}
	if disk.Name(strings.Repeat("x", 1<<20)) {
		t.Error("P3.1: Name of a million bytes")
	}
}

func TestNameOfSeveral(t *testing.T) {
	if !disk.Name() || !disk.Name("a", "a", ".", "-", "..", "0") {
		t.Error("P3.1: Name of none, or of names")
	}
	if disk.Name("A", "a") || disk.Name("a", "A", "a") || disk.Name("a", "a", "") {
		t.Error("P3.1: Name, and one isn't")
	}
}

func TestAppend(t *testing.T) {
	d := open(t, 20)
	want(t, "P3.2: Append", d.Append("b", []byte("xy")), api.OK)
	want(t, "P3.2: Append of pieces", d.Append("b", []byte("z"), nil, []byte{}, []byte("uvw")), api.OK)
	stands(t, "P3.2", d, "b=|xyzuvw 14")
	want(t, "P3.2: Append to another", d.Append("a", []byte("1")), api.OK)
	want(t, "P3.2: Sync", d.Sync("b"), api.OK)
	want(t, "P3.2: Append behind what is safe", d.Append("b", []byte("!")), api.OK)
	stands(t, "P3.2", d, "a=|1 b=xyzuvw|! 12")
}

// TestAppendNothing: a file is there from the first Append to it, though that be of no bytes, and though there be no room.
func TestAppendNothing(t *testing.T) {
	for i, none := range [][][]byte{nil, {}, {nil}, {{}, nil}} {
		d := open(t, 0)
		want(t, "P3.2: Append of no bytes", d.Append("a", none...), api.OK)
		want(t, "P3.2: Append of no bytes, again", d.Append("a", none...), api.OK)
		if b, ok := d.Read("a"); !ok || len(b) != 0 {
			t.Errorf("P3.2: %d: Read: %q, %t", i, b, ok)
		}
		stands(t, "P3.2: a file of no bytes", d, "a=| 0")
		if d.Crash() != 0 {
			t.Error("P3.4: bytes of a file without bytes are gone")
		}
		stands(t, "P3.4: a file of no bytes, behind a crash", d, "a=| 0")
	}
}

func TestAppendRoom(t *testing.T) {
	for room := range 9 {
		for had := range room + 1 {
			for _, cut := range []int{0, 1, 3} {
				d := open(t, room)
				lay(t, d, "a", strings.Repeat("x", had), "")
				all := tell(d)
				bytes := func(n int) [][]byte {
					at := min(cut, n)
					return [][]byte{[]byte(strings.Repeat("1", at)), nil, []byte(strings.Repeat("2", n-at))}
				}
				want(t, "P3.2: one byte too many", d.Append("a", bytes(room-had+1)...), api.ErrFull)
				want(t, "P3.2: one byte too many, for a new file", d.Append("b", bytes(room-had+1)...), api.ErrFull)
				stands(t, "P3.2: nothing fits", d, all)
				want(t, "P3.2: what fits exactly", d.Append("b", bytes(room-had)...), api.OK)
				if d.Free() != 0 {
					t.Fatalf("P3.5: all is full, and there are %d free", d.Free())
				}
			}
		}
	}
}

// TestAppendTogether: it is all pieces together that must fit, whichever of them would.
func TestAppendTogether(t *testing.T) {
	d := open(t, 4)
	for _, bs := range [][][]byte{{[]byte("123"), []byte("45")}, {[]byte("12345"), nil}, {[]byte("1"), []byte("2345")}, {nil, []byte("12"), []byte("3"), []byte("45")}} {
		want(t, "P3.2: five bytes", d.Append("a", bs...), api.ErrFull)
		stands(t, "P3.2: five bytes", d, "4")
	}
}

func TestAppendNames(t *testing.T) {
	d := open(t, 4)
	for _, s := range []string{"", "A", "a/b", " a", "\x00", strings.Repeat("a", 33)} {
		want(t, "P3.2: no name", d.Append(s, []byte("1")), api.ErrName)
		want(t, "P3.2: no name, no bytes", d.Append(s), api.ErrName)
		want(t, "P3.2: no name, ahead of no room", d.Append(s, []byte("12345")), api.ErrName)
	}
	stands(t, "P3.2: no names", d, "4")
	for _, s := range []string{"a", ".", "-", "0", strings.Repeat("a", 32)} {
		want(t, "P3.2: a name", d.Append(s), api.OK)
	}
}

// full is a disk with so many files as there may be.
func full(t *testing.T, room int) *disk.Disk {
	t.Helper()
	d := open(t, room)
	for i := range 4096 {
		want(t, "P3.2: a file", d.Append(fmt.Sprintf("f%04d", i)), api.OK)
	}
	return d
}

func TestMaxFiles(t *testing.T) {
	d := full(t, 3)
	want(t, "P3.2: the file behind the last", d.Append("new"), api.ErrFull)
	want(t, "P3.2: the file behind the last, with bytes", d.Append("new", []byte("1")), api.ErrFull)
	want(t, "P3.2: no name, ahead of too many", d.Append("NEW"), api.ErrName)
	if names := d.Names(); len(names) != 4096 || d.Free() != 3 || names[4095] != "f4095" || names[0] != "f0000" {
		t.Fatalf("P3.2: %d files, %d free", len(names), d.Free())
	}
	want(t, "P3.2: a file that is there", d.Append("f4095", []byte("1")), api.OK)
	want(t, "P3.3: a new name among so many", d.Rename("f4095", "new"), api.OK)
	want(t, "P3.2: still too many", d.Append("f4095"), api.ErrFull)
	want(t, "P3.3: a name that is there", d.Rename("new", "f0000"), api.OK)
	want(t, "P3.2: one is gone", d.Append("f4095"), api.OK)
	want(t, "P3.2: too many again", d.Append("new"), api.ErrFull)
	want(t, "P3.3: Remove", d.Remove(d.Names()...), api.OK)
	stands(t, "P3.3: all are gone", d, "3")
	want(t, "P3.2: the first again", d.Append("new"), api.OK)
}

func TestSync(t *testing.T) {
	d := open(t, 20)
	for _, s := range []string{"a", "b", "c"} {
		lay(t, d, s, "1", "23")
	}
	want(t, "P3.2: Sync of none", d.Sync(), api.OK)
	for _, names := range [][]string{{"a", "x"}, {"x", "a"}, {"a", "b", "X", "c"}, {""}, {"a", "aa"}} {
		want(t, "P3.2: one isn't there", d.Sync(names...), api.ErrName)
		stands(t, "P3.2: one isn't there", d, "a=1|23 b=1|23 c=1|23 11")
	}
	want(t, "P3.2: Sync", d.Sync("c", "a", "c"), api.OK)
	stands(t, "P3.2: Sync of two, one of them twice", d, "a=123| b=1|23 c=123| 11")
	want(t, "P3.2: Sync, again", d.Sync("a"), api.OK)
	stands(t, "P3.2: Sync, again", d, "a=123| b=1|23 c=123| 11")
}

func TestRename(t *testing.T) {
	d := open(t, 20)
	lay(t, d, "a", "12", "3")
	lay(t, d, "b", "4", "567")
	want(t, "P3.3: a new name", d.Rename("a", "c"), api.OK)
	stands(t, "P3.3: a new name", d, "b=4|567 c=12|3 13")
	want(t, "P3.3: the name that it has", d.Rename("c", "c"), api.OK)
	stands(t, "P3.3: the name that it has", d, "b=4|567 c=12|3 13")
	want(t, "P3.3: a name that is there", d.Rename("c", "b"), api.OK)
	stands(t, "P3.3: a name that is there", d, "b=12|3 17")
	if _, ok := d.Read("a"); ok {
		t.Error("P3.5: the first name is still there")
	}
	want(t, "P3.3: the name that is gone", d.Append("a", []byte("x")), api.OK)
	stands(t, "P3.3: the name that is gone", d, "a=|x b=12|3 16")
}

func TestRenameWrong(t *testing.T) {
	d := open(t, 9)
	lay(t, d, "a", "1", "2")
	for _, s := range []string{"", "A", "b c", strings.Repeat("a", 33)} {
		want(t, "P3.3: to is no name", d.Rename("a", s), api.ErrName)
		want(t, "P3.3: from is no name", d.Rename(s, "a"), api.ErrName)
		want(t, "P3.3: neither is a name", d.Rename(s, s), api.ErrName)
	}
	want(t, "P3.3: from isn't there", d.Rename("b", "a"), api.ErrName)
	want(t, "P3.3: from isn't there, to neither", d.Rename("b", "c"), api.ErrName)
	want(t, "P3.3: from isn't there, to is it", d.Rename("b", "b"), api.ErrName)
	stands(t, "P3.3: nothing was renamed", d, "a=1|2 7")
}

func TestRemove(t *testing.T) {
	d := open(t, 20)
	for _, s := range []string{"a", "b", "c", "d"} {
		lay(t, d, s, "1", "2")
	}
	all := tell(d)
	want(t, "P3.3: Remove of none", d.Remove(), api.OK)
	for _, names := range [][]string{{"x"}, {"a", "x"}, {"x", "a"}, {"a", "a"}, {"a", "b", "a"}, {"b", "a", "a"}, {""}, {"A"}} {
		want(t, "P3.3: one isn't there, or named twice", d.Remove(names...), api.ErrName)
		stands(t, "P3.3: one isn't there, or named twice", d, all)
	}
	want(t, "P3.3: Remove", d.Remove("c", "a"), api.OK)
	stands(t, "P3.3: Remove", d, "b=1|2 d=1|2 16")
	want(t, "P3.3: it is gone", d.Remove("a"), api.ErrName)
	want(t, "P3.3: made anew", d.Append("a"), api.OK)
	stands(t, "P3.3: made anew, of no bytes", d, "a=| b=1|2 d=1|2 16")
	want(t, "P3.3: the rest", d.Remove("d", "b", "a"), api.OK)
	stands(t, "P3.3: the rest", d, "20")
}

func TestCut(t *testing.T) {
	for n, all := range []string{"a=| 9", "a=1| 8", "a=12| 7", "a=12|3 6", "a=12|34 5"} {
		d := open(t, 9)
		lay(t, d, "a", "12", "34")
		want(t, "P3.3: Cut", d.Cut("a", n), api.OK)
		stands(t, "P3.3: Cut", d, all)
		want(t, "P3.3: Cut, again", d.Cut("a", n), api.OK)
		want(t, "P3.3: Cut to one more than there are", d.Cut("a", n+1), api.ErrArg)
		stands(t, "P3.3: Cut, again", d, all)
		want(t, "P3.3: Append behind a cut", d.Append("a", []byte("xyz")), api.OK)
		b, _ := d.Read("a")
		if string(b) != "1234"[:n]+"xyz" || d.Safe("a") != min(n, 2) {
			t.Errorf("P3.3: cut to %d, and appended to: %q, %d safe", n, b, d.Safe("a"))
		}
	}
}

func TestCutWrong(t *testing.T) {
	d := open(t, 9)
	lay(t, d, "a", "12", "34")
	for _, n := range []int{-1, math.MinInt, 5, 9, 10, math.MaxInt} {
		want(t, "P3.3: Cut to so many", d.Cut("a", n), api.ErrArg)
		want(t, "P3.3: it isn't there, ahead of so many", d.Cut("b", n), api.ErrName)
		want(t, "P3.3: no name, ahead of so many", d.Cut("", n), api.ErrName)
	}
	want(t, "P3.3: it isn't there", d.Cut("b", 0), api.ErrName)
	stands(t, "P3.3: nothing was cut", d, "a=12|34 5")
}

func TestRead(t *testing.T) {
	d := open(t, 9)
	lay(t, d, "b", "12", "3")
	for _, s := range []string{"a", "", "B", "bb", strings.Repeat("b", 99)} {
		if b, ok := d.Read(s); len(b) != 0 || ok {
			t.Errorf("P3.5: Read(%q): %q, %t", s, b, ok)
		}
		if d.Safe(s) != 0 {
			t.Errorf("P3.5: Safe(%q): %d", s, d.Safe(s))
		}
	}
	if b, ok := d.Read("b"); string(b) != "123" || !ok || d.Safe("b") != 2 || d.Free() != 6 {
		t.Errorf("P3.5: %q, %t, %d safe, %d free", b, ok, d.Safe("b"), d.Free())
	}
}

func TestNames(t *testing.T) {
	d := open(t, 9)
	rising := []string{"-", ".", "0", "9", "a", "a-", "a.", "a0", "aa", "b", "z"}
	for _, i := range []int{4, 10, 0, 8, 2, 6, 1, 9, 3, 7, 5} {
		want(t, "Append", d.Append(rising[i]), api.OK)
	}
	for range 20 {
		if got := d.Names(); !slices.Equal(got, rising) {
			t.Fatalf("P3.5: Names: %q", got)
		}
	}
}
