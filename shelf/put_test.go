package shelf_test

import (
	"fmt"
	"testing"

	"echelon/api"
)

// TestPutArg: which snapshots may be put, behind no newest and behind some.
func TestPutArg(t *testing.T) {
	for _, newest := range []int{0, 1, 5, top - 2, top - 1} {
		for _, index := range append(numbers(), 4, 5, 6, top-2) {
			for _, term := range numbers() {
				d := space(t, 200)
				s := open(t, "P6.2", d)
				want := api.OK
				if !may(index) || !may(term) || index <= newest {
					want = api.ErrArg
				}
				var then api.Snap
				if newest > 0 {
					then = snap(newest, 3, "elder")
					is(t, "P6.3", s.Put(then), api.OK)
				}
				all := tell(d)
				what := fmt.Sprintf("P6.3: behind %d: Put of (%d, %d)", newest, index, term)
				is(t, what, s.Put(snap(index, term, "x")), want)
				if want == api.OK {
					then = snap(index, term, "x")
				} else {
					kept(t, what, d, all)
				}
				holds(t, what, s, then)
				holds(t, what, open(t, what, d), then)
			}
		}
	}
}

// TestPutArgFirst: what may not be put is ErrArg ahead of what the disk says, and takes no call of the disk; aside stays.
func TestPutArgFirst(t *testing.T) {
	d := space(t, 30)
	s := open(t, "P6.2", d)
	is(t, "P6.3", s.Put(snap(5, 1, "")), api.OK)
	lay(t, d, aside, []byte("left"))
	all := tell(d)
	long := string(make([]byte, 99))
	for _, n := range []int{0, 1, -1} {
		d.Stop(n)
		for _, x := range []api.Snap{snap(5, 1, long), snap(4, 9, long), snap(0, 1, long), snap(6, 0, long), snap(top, 1, long), {}} {
			is(t, "P6.3: ErrArg comes first", s.Put(x), api.ErrArg)
		}
		kept(t, "P6.3: ErrArg", d, all)
	}
	d.Stop(1)
	is(t, "P6.3: ErrArg", s.Put(snap(1, 1, "")), api.ErrArg)
	is(t, "P6.3: ErrArg is no call of the disk", d.Append("x"), api.OK)
}

// TestPutFile: what a Put writes: the snapshot's own file, all of it safe, and nothing aside.
func TestPutFile(t *testing.T) {
	d := space(t, 900)
	s := open(t, "P6.2", d)
	var want []string
	for _, x := range []api.Snap{
		{Mark: api.Mark{Index: 1, Term: 1}},
		{Mark: api.Mark{Index: 2, Term: 1}, Conf: []byte{0}},
		{Mark: api.Mark{Index: 3, Term: top - 1}, Body: []byte{0, 255}},
		snap(256, 1, "lower Term"),
		snap(999999999, 7, ""),
		snap(1000000000, 7, "ten digits"),
		snap(top-1, 1, "the last"),
	} {
		is(t, "P6.3: Put", s.Put(x), api.OK)
		want = append(want, name(x.Index), string(laid(x)))
		files(t, "P6.3: Put", d, want...)
		has(t, "P6.3: Put", s, x)
		has(t, "P6.2: Put", open(t, "P6.2", d), x)
		d.Crash()
		files(t, "P6.5: Put and a crash", d, want...)
	}
	for i := range 12 {
		is(t, "P6.3: behind the last Index", s.Put(snap(top-10+i, 1, "")), api.ErrArg)
	}
}

// TestPutOver: a file that has the snapshot's name, and isn't whole, gives way.
func TestPutOver(t *testing.T) {
	for _, junk := range [][]byte{nil, []byte("junk"), laid(snap(6, 1, "another")), laid(snap(7, 0, "no Term")), make([]byte, 70)} {
		d := space(t, 100)
		lay(t, d, name(5), laid(snap(5, 1, "")))
		lay(t, d, name(7), junk)
		s := open(t, "P6.2", d)
		has(t, "P6.2", s, snap(5, 1, ""))
		is(t, "P6.3", s.Put(snap(7, 1, "new")), api.OK)
		has(t, "P6.3", s, snap(7, 1, "new"))
		files(t, "P6.3", d, name(5), string(laid(snap(5, 1, ""))), name(7), string(laid(snap(7, 1, "new"))))
	}
}

// TestPutRoom: there is room to the byte, and for one byte less there is none; what is aside makes room, what has the name doesn't.
func TestPutRoom(t *testing.T) {
	x, elder := snap(9, 1, "abcdefgh"), snap(5, 1, "")
	size, had := len(laid(x)), len(laid(elder))
	for _, left := range []int{0, 1, 15, 40} {
		for spare := -1; spare <= 1; spare++ {
			free := max(size+spare, left)
			d := space(t, had+free)
			s := open(t, "P6.2", d)
			is(t, "P6.3", s.Put(elder), api.OK)
			if left > 0 {
				lay(t, d, aside, make([]byte, left))
			}
			want, then := api.OK, x
			if free < size {
				want, then = api.ErrFull, elder
			}
			what := fmt.Sprintf("P6.3: %d bytes to spare, %d aside", spare, left)
			is(t, what, s.Put(x), want)
			has(t, what, s, then)
			if want == api.ErrFull {
				files(t, what, d, name(5), string(laid(elder)))
				is(t, what+": and a smaller one", s.Put(snap(9, 1, "a")), api.OK)
				then = snap(9, 1, "a")
			}
			has(t, what, s, then)
			has(t, what, open(t, what, d), then)
		}
	}
	d := space(t, 2*size-1)
	lay(t, d, name(9), make([]byte, size))
	s := open(t, "P6.2", d)
	is(t, "P6.3: the file of its name has no room to give", s.Put(x), api.ErrFull)
	files(t, "P6.3: ErrFull", d, name(9), string(make([]byte, size)))
	hasNone(t, "P6.3: ErrFull", s)
}

// TestPutManyFiles: aside is a file, too: where no other one may be, there is no room for it; what has the name doesn't help.
func TestPutManyFiles(t *testing.T) {
	d := space(t, 99)
	for i := range 4095 {
		if d.Append(fmt.Sprintf("f%04d", i)) != api.OK {
			t.Fatal("P3.2")
		}
	}
	s := open(t, "P6.2", d)
	is(t, "P6.3: the last file", s.Put(snap(3, 1, "")), api.OK)
	is(t, "P6.3: no file is left", s.Put(snap(4, 1, "")), api.ErrFull)
	has(t, "P6.3: no file is left", s, snap(3, 1, ""))
	is(t, "P3.3", d.Rename("f0000", name(4)), api.OK)
	is(t, "P6.3: its own name, but none for aside", s.Put(snap(4, 1, "")), api.ErrFull)
	is(t, "P3.3", d.Rename("f0001", aside), api.OK)
	is(t, "P6.3: aside is there", s.Put(snap(4, 1, "")), api.OK)
	has(t, "P6.3: aside is there", s, snap(4, 1, ""))
}

// TestClean: which files are removed.
func TestClean(t *testing.T) {
	d := space(t, 900)
	s := open(t, "P6.2", d)
	for _, i := range []int{2, 40, 300} {
		is(t, "P6.3", s.Put(snap(i, 1, "")), api.OK)
	}
	for _, i := range []int{0, 1, 41, 299, 301, top - 1} {
		lay(t, d, name(i), []byte("junk"))
	}
	lay(t, d, aside, laid(snap(400, 1, "")))
	is(t, "P6.3: Clean", s.Clean(), api.OK)
	want := []string{name(300), string(laid(snap(300, 1, ""))), name(301), "junk", name(top - 1), "junk"}
	files(t, "P6.3: Clean", d, want...)
	has(t, "P6.3: Clean", s, snap(300, 1, ""))
	d.Stop(0)
	is(t, "P6.3: nothing is to be removed", s.Clean(), api.OK)
	d.Crash()
	files(t, "P6.3: Clean again", d, want...)
	has(t, "P6.3: Clean", open(t, "P6.2", d), snap(300, 1, ""))
}

// TestCleanNone: below no newest there is none, but aside goes.
func TestCleanNone(t *testing.T) {
	d := space(t, 900)
	lay(t, d, name(0), []byte("junk"))
	lay(t, d, name(7), []byte("junk"))
	s := open(t, "P6.2", d)
	is(t, "P6.3: Clean", s.Clean(), api.OK)
	files(t, "P6.3: Clean without a newest", d, name(0), "junk", name(7), "junk")
	lay(t, d, aside, laid(snap(8, 1, "")))
	is(t, "P6.3: Clean", s.Clean(), api.OK)
	files(t, "P6.3: Clean without a newest", d, name(0), "junk", name(7), "junk")
	hasNone(t, "P6.3: Clean", s)
	is(t, "P6.3", s.Put(snap(1, 1, "")), api.OK)
	is(t, "P6.3: Clean", s.Clean(), api.OK)
	files(t, "P6.3: Index 0 is below 1", d, name(1), string(laid(snap(1, 1, ""))), name(7), "junk")
}
