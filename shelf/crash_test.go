package shelf_test

import (
	"fmt"
	"math/rand"
	"slices"
	"testing"

	"echelon/api"
	"echelon/disk"
)

// half is what a disk has: files and, of the last one named by loose, no byte that is safe.
func half(room int, loose string, files ...string) string {
	s := ""
	for i := 0; i < len(files); i += 2 {
		if files[i] == loose {
			s += fmt.Sprintf("%s=|%x ", files[i], files[i+1])
		} else {
			s += fmt.Sprintf("%s=%x| ", files[i], files[i+1])
		}
		room -= len(files[i+1])
	}
	return s + fmt.Sprint(room)
}

// TestPutCalls: which calls of the disk a Put takes, one behind the other, and what is there when a stop comes ahead of each of them.
func TestPutCalls(t *testing.T) {
	elder, x := snap(5, 1, "abc"), snap(9, 2, "xyz")
	five, nine := string(laid(elder)), string(laid(x))
	for _, c := range []struct {
		what string
		left []byte
		over bool // does a file have x's name?
		then []string
	}{
		{"nothing aside", nil, false, []string{
			half(99, "", name(5), five),
			half(99, aside, name(5), five, aside, nine),
			half(99, "", name(5), five, aside, nine),
			half(99, "", name(5), five, name(9), nine),
		}},
		{"some aside", []byte("left"), false, []string{
			half(99, "", name(5), five, aside, "left"),
			half(99, "", name(5), five),
			half(99, aside, name(5), five, aside, nine),
			half(99, "", name(5), five, aside, nine),
			half(99, "", name(5), five, name(9), nine),
		}},
		{"an empty one aside, and its name is had", []byte{}, true, []string{
			half(99, "", name(5), five, name(9), "junk", aside, ""),
			half(99, "", name(5), five, name(9), "junk"),
			half(99, aside, name(5), five, name(9), "junk", aside, nine),
			half(99, "", name(5), five, name(9), "junk", aside, nine),
			half(99, "", name(5), five, name(9), nine),
		}},
	} {
		for n := range len(c.then) + 1 {
			d := space(t, 99)
			lay(t, d, name(5), []byte(five))
			if c.over {
				lay(t, d, name(9), []byte("junk"))
			}
			if c.left != nil {
				lay(t, d, aside, c.left)
			}
			s := open(t, "P6.2", d)
			d.Stop(n)
			want, newest, last := api.ErrStop, elder, len(c.then)-1
			if n >= last {
				want, newest = api.OK, x
			}
			what := fmt.Sprintf("P6.3: %s, Stop(%d)", c.what, n)
			is(t, what, s.Put(x), want)
			kept(t, what, d, c.then[min(n, last)])
			has(t, what, s, newest)
			more := api.ErrStop
			if n > last {
				more = api.OK
			}
			is(t, what+": a call behind it", d.Sync(), more)
		}
	}
}

// TestPutFullCalls: of a Put for which there is no room two calls are done: what is aside is removed, and Append answers ErrFull.
func TestPutFullCalls(t *testing.T) {
	for n := range 5 {
		d := space(t, 30)
		lay(t, d, aside, []byte("left"))
		s := open(t, "P6.2", d)
		d.Stop(n)
		want := api.ErrStop
		if n >= 2 {
			want = api.ErrFull
		}
		what := fmt.Sprintf("P6.3: full, Stop(%d)", n)
		is(t, what, s.Put(snap(9, 1, string(make([]byte, 30)))), want)
		hasNone(t, what, s)
		then := half(30, "")
		if n == 0 {
			then = half(30, "", aside, "left")
		}
		kept(t, what, d, then)
		more := api.OK
		if n <= 2 {
			more = api.ErrStop
		}
		is(t, what+": a call behind it", d.Sync(), more)
	}
}

// TestCleanCalls: a Clean removes one file a call, the one with the least Index first, what is aside last.
func TestCleanCalls(t *testing.T) {
	all := []string{name(0), "", name(3), "junk", name(20), string(laid(snap(20, 1, ""))), name(100), "junk", name(200), string(laid(snap(200, 1, "new"))), name(300), "junk", aside, "left"}
	for n := range 7 {
		d := space(t, 200)
		for i := 0; i < len(all); i += 2 {
			lay(t, d, all[i], []byte(all[i+1]))
		}
		s := open(t, "P6.2", d)
		d.Stop(n)
		want, then := api.ErrStop, all[2*min(n, 4):]
		if n >= 5 {
			want, then = api.OK, all[8:12]
		}
		what := fmt.Sprintf("P6.3: Clean, Stop(%d)", n)
		is(t, what, s.Clean(), want)
		files(t, what, d, then...)
		has(t, what, s, snap(200, 1, "new"))
		more := api.OK
		if n <= 5 {
			more = api.ErrStop
		}
		is(t, what+": a call behind it", d.Sync(), more)
		d.Crash()
		s = open(t, what, d)
		has(t, what, s, snap(200, 1, "new"))
		is(t, what+": and on", s.Clean(), api.OK)
		files(t, what+": and on", d, all[8:12]...)
	}
}

// TestPutCrash: each stop within a Put, and each crash behind it: the shelf that is opened anew has what it had, or, where the Put came to its end, that one; and goes on.
func TestPutCrash(t *testing.T) {
	x, next := snap(9, 2, "xyz"), snap(10, 2, "next")
	for _, elder := range []api.Snap{{}, snap(5, 1, "abc")} {
		for _, left := range [][]byte{nil, {}, []byte("left"), laid(x), laid(snap(9, 2, "xyz, and more"))} {
			for n := range 6 {
				for keep := -1; keep <= len(laid(x))+1; keep++ {
					what := fmt.Sprintf("P6.5: newest %d, %d aside, Stop(%d), Crash(%d)", elder.Index, len(left), n, keep)
					d := space(t, 99)
					if !zero(elder) {
						lay(t, d, name(elder.Index), laid(elder))
					}
					if left != nil && d.Append(aside, left) != api.OK {
						t.Fatal("P3.2")
					}
					s := open(t, "P6.2", d)
					d.Stop(n)
					then := elder
					switch e := s.Put(x); e {
					case api.OK:
						then = x
					default:
						is(t, what, e, api.ErrStop)
					}
					holds(t, what, s, then)
					d.Crash(keep, keep)
					holds(t, what+": the elder shelf", s, then)
					s = open(t, what, d)
					holds(t, what, s, then)
					is(t, what+": and on", s.Put(next), api.OK)
					is(t, what+": and on", s.Clean(), api.OK)
					d.Crash()
					files(t, what+": and on", d, name(10), string(laid(next)))
					has(t, what+": and on", open(t, what, d), next)
				}
			}
		}
	}
}

// TestPutAgain: a shelf whose Put an error ended goes on, once its disk has crashed or is stopped later; the same one may be put again.
func TestPutAgain(t *testing.T) {
	for n := range 3 {
		for _, crash := range []bool{false, true} {
			d := space(t, 99)
			s := open(t, "P6.2", d)
			is(t, "P6.3", s.Put(snap(5, 1, "abc")), api.OK)
			d.Stop(n)
			is(t, "P6.3", s.Put(snap(9, 1, "one")), api.ErrStop)
			is(t, "P6.3: till it crashes", s.Put(snap(9, 1, "one")), api.ErrStop)
			if crash {
				d.Crash(99, 99)
			} else {
				d.Stop(-1)
			}
			is(t, "P6.3", s.Put(snap(9, 1, "two")), api.OK)
			has(t, "P6.3", s, snap(9, 1, "two"))
			d.Crash()
			files(t, "P6.5", d, name(5), string(laid(snap(5, 1, "abc"))), name(9), string(laid(snap(9, 1, "two"))))
		}
	}
}

// TestCrashes: of long rows of Puts, Cleans, stops and crashes, on disks that are full now and then, the disk has behind each the snapshot for which Put answered OK last, or one for which it answered an error behind that.
func TestCrashes(t *testing.T) {
	r := rand.New(rand.NewSource(6))
	for range 1500 {
		d := space(t, 30+r.Intn(60))
		s := open(t, "P6.2", d)
		var newest api.Snap
		var failed []api.Snap
		calls := ""
		for range 40 {
			if r.Intn(3) == 0 {
				d.Stop(r.Intn(6))
			}
			e := api.OK
			if x := snap(newest.Index+r.Intn(4), 1+r.Intn(3), string(make([]byte, r.Intn(30)))); r.Intn(3) > 0 {
				e = s.Put(x)
				calls += fmt.Sprintf("Put(%v, %d bytes) %d ", x.Mark, len(x.Body), e)
				switch e {
				case api.OK:
					newest, failed = x, nil
				case api.ErrFull, api.ErrStop:
					failed = append(failed, x)
				}
			} else {
				e = s.Clean()
				calls += fmt.Sprintf("Clean %d ", e)
			}
			if e != api.ErrStop && r.Intn(4) > 0 {
				continue
			}
			keep := []int{r.Intn(50), r.Intn(50), r.Intn(50), r.Intn(50)}
			d.Crash(keep...)
			calls += fmt.Sprintf("Crash(%d) ", keep)
			s = open(t, "P6.2", d)
			newest, failed = outlived(t, calls, d, newest, failed), nil
			holds(t, "P6.5: "+calls, s, newest)
		}
	}
}

// outlived is what a disk has behind a crash: of what was put last, and what was being put behind that, the one that it has.
func outlived(t *testing.T, calls string, d *disk.Disk, newest api.Snap, failed []api.Snap) api.Snap {
	t.Helper()
	x, _ := open(t, "P6.2", d).Newest()
	if same(x, newest) || slices.ContainsFunc(failed, func(y api.Snap) bool { return same(x, y) }) {
		return x
	}
	t.Fatalf("P6.5: %s: %v, not %v, nor one of %v", calls, x, newest, failed)
	return x
}
