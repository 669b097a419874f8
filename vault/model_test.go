package vault_test

import (
	"fmt"
	"math/rand"
	"testing"

	"echelon/api"
	"echelon/disk"
	"echelon/hard"
	"echelon/segment"
	"echelon/shelf"
	"echelon/vault"
)

// apart is the three layers of a disk of its own, each called by itself, in the order in which the chapter names the calls.
type apart struct {
	d *disk.Disk
	h *hard.Hard
	l *segment.Log
	s *shelf.Shelf
}

func (a *apart) open(size int) api.Errno {
	s, e := shelf.Open(a.d)
	if e != api.OK {
		return e
	}
	x, _ := s.Newest()
	l, e := segment.Open(a.d, x.Mark, size)
	if e != api.OK {
		return e
	}
	h, e := hard.Open(a.d)
	a.h, a.l, a.s = h, l, s
	return e
}

// Keep is what P11.2 says, word by word.
func (a *apart) Keep(s api.State, from int, es ...api.Entry) api.Errno {
	if e := a.h.Save(s); e != api.OK {
		return e
	}
	if from > 0 {
		if e := a.l.CutFrom(from); e != api.OK {
			return e
		}
	}
	if len(es) == 0 {
		return api.OK
	}
	if e := a.l.Append(es...); e != api.OK {
		return e
	}
	return a.l.Sync()
}

// Compact is what P11.3 says, word by word.
func (a *apart) Compact(x api.Snap) api.Errno {
	if e, ok := a.l.At(x.Index); !ok || e.Term != x.Term {
		return api.ErrArg
	}
	if e := a.s.Put(x); e != api.OK {
		return e
	}
	if e := a.l.DropTo(x.Mark); e != api.OK {
		return e
	}
	return a.s.Clean()
}

// Install is what P11.3 says, word by word.
func (a *apart) Install(x api.Snap) api.Errno {
	if e := a.s.Put(x); e != api.OK {
		return e
	}
	if n, ok := a.l.At(x.Index); ok && n.Term == x.Term {
		if e := a.l.DropTo(x.Mark); e != api.OK {
			return e
		}
	} else if e := a.l.Reset(x.Mark); e != api.OK {
		return e
	}
	return a.s.Clean()
}

// pair is a vault, and the layers apart, each on a disk of its own, on which the same is done; and the calls up to now.
type pair struct {
	v     *vault.Vault
	d     *disk.Disk
	a     *apart
	size  int
	calls string
}

func newPair(t *testing.T, room, size int) *pair {
	t.Helper()
	p := &pair{d: space(t, room), a: &apart{d: space(t, room)}, size: size, calls: fmt.Sprintf("room %d, size %d: ", room, size)}
	p.open(t)
	return p
}

func (p *pair) both(do func(d *disk.Disk)) {
	do(p.d)
	do(p.a.d)
}

// check holds the vault's answer, and its disk, against those of the layers.
func (p *pair) check(t *testing.T, what string, got, want api.Errno) {
	t.Helper()
	p.calls += fmt.Sprintf("%s %d; ", what, want)
	is(t, p.calls, got, want)
	if got, want := tell(p.d), tell(p.a.d); got != want {
		t.Fatalf("%s: there is\n%s, not\n%s", p.calls, got, want)
	}
	// Whether a stop was come to shows how many calls of the disk there were.
	if got, want := p.d.Sync(), p.a.d.Sync(); got != want {
		t.Fatalf("%s: the disk's next call: %d, not %d", p.calls, got, want)
	}
}

// open opens both anew: as often as it takes.
func (p *pair) open(t *testing.T) {
	t.Helper()
	v, e := vault.Open(p.d, p.size)
	p.v = v
	p.check(t, "Open", e, p.a.open(p.size))
	if (v == nil) != (e != api.OK) {
		t.Fatalf("P11.1: %s: %v, %d", p.calls, v, e)
	}
	if v == nil {
		p.both(func(d *disk.Disk) { d.Crash() })
		p.open(t)
	}
}

// do does a call on both, and opens them anew, if a stop ended it.
func (p *pair) do(t *testing.T, c call, keep ...int) {
	t.Helper()
	e := does(p.v, c)
	p.check(t, fmt.Sprint(c), e, does(p.a, c))
	if e == api.ErrStop {
		p.both(func(d *disk.Disk) { d.Crash(keep...) })
		p.calls += fmt.Sprintf("Crash(%d); ", keep)
		p.open(t)
	}
	x, _ := p.a.s.Newest()
	if s := differs(p.v, plain{p.a.h.State, x, p.a.l.From(p.a.l.Mark().Index+1, 1<<40)}); s != "" || p.v.Synced() != p.a.l.Synced() {
		t.Fatalf("%s: synced up to %d, not %d; %s", p.calls, p.v.Synced(), p.a.l.Synced(), s)
	}
}

// TestCalls: each call with each stop, with rooms from none to enough: which calls of the disk it makes, one behind the other, and what its error is.
func TestCalls(t *testing.T) {
	for _, c := range someCalls() {
		for _, size := range []int{1, 35} {
			for _, room := range []int{0, 8, 16, 17, 30, 33, 60, 90, 102, 112, 118, 125, 135, 145, 999} {
				for n := -1; n < 16; n++ {
					p := newPair(t, room, size)
					p.do(t, call{what: "k", s: state(1, 1), es: run(1, 1, 1, 1)})
					p.do(t, call{what: "c", x: snap(2, 1)})
					p.do(t, call{what: "k", s: state(4, 1), es: run(4, 2, 2, 4)})
					p.both(func(d *disk.Disk) { d.Stop(n) })
					p.calls += fmt.Sprintf("Stop(%d); ", n)
					p.do(t, c, 9, 17, 20, 17)
					p.do(t, call{what: "k", s: state(99, 1), from: 3, es: run(3, 1)})
				}
			}
		}
	}
}

// someState draws states of which most may follow.
func someState(r *rand.Rand, has api.State) api.State {
	switch r.Intn(6) {
	case 0:
		return state(has.Term+r.Intn(3)-1, r.Intn(4)-1-r.Intn(20)/19)
	case 1:
		return state(has.Term+1, r.Intn(3)-1)
	}
	return has
}

// someCall draws calls of which most may be.
func someCall(r *rand.Rand, p plain) call {
	last := p.last()
	n := last.Index - p.snap.Index
	switch r.Intn(8) {
	case 0:
		e := at(p.snap.Index+r.Intn(n+2)-r.Intn(20)/19, 0)
		term := last.Term
		if has, ok := p.entry(e.Index); ok {
			term = has.Term
		}
		return call{what: "c", x: snap(e.Index, term+r.Intn(20)/19)}
	case 1:
		index := p.snap.Index + r.Intn(n+4) - r.Intn(20)/19
		has, _ := p.entry(index)
		return call{what: "i", x: snap(index, max(has.Term, p.snap.Term, 1)+r.Intn(2))}
	}
	c := call{what: "k", s: someState(r, p.state)}
	first := last.Index + 1
	if r.Intn(3) == 0 {
		c.from = p.snap.Index + r.Intn(n+3) - r.Intn(20)/19
		if c.from > 0 {
			first = min(first, c.from)
		}
	}
	term := last.Term
	if has, ok := p.entry(first - 1); ok {
		term = has.Term
	}
	for range r.Intn(5) {
		term = max(term+r.Intn(6)/4-r.Intn(60)/59, 1-r.Intn(60)/59)
		c.es = append(c.es, api.Entry{Index: first, Term: term, Kind: r.Intn(3), Body: []byte{byte(r.Intn(256)), byte(r.Intn(256))}[:r.Intn(3)]})
		first += 1 + r.Intn(60)/59
	}
	return c
}

// spoils turns, cuts or removes a file of both disks, or lays one of these names.
func (p *pair) spoils(r *rand.Rand) {
	names := append(p.d.Names(), slot(0), slot(1), seg(r.Intn(9)), name(r.Intn(9)), "snap-new")
	file := names[r.Intn(len(names))]
	b, _ := p.d.Read(file)
	if len(b) == 0 {
		b = []byte("junk")
	}
	switch r.Intn(4) {
	case 0:
		b = b[:r.Intn(len(b))]
	case 1:
		b[r.Intn(len(b))] ^= 1 << r.Intn(8)
	case 2:
		b = append(b, 0)
	}
	gone := r.Intn(4) == 0
	p.both(func(d *disk.Disk) {
		d.Stop(-1)
		d.Remove(file)
		if !gone {
			d.Append(file, b)
		}
	})
	p.calls += fmt.Sprintf("%s=%x, gone %t; ", file, b, gone)
}

// TestLayers: of long rows of calls, stops, crashes, and files that are torn, on disks with more room or less, each answers as the layers do, and leaves the disk as they do.
func TestLayers(t *testing.T) {
	r := rand.New(rand.NewSource(11))
	for range 1500 {
		p := newPair(t, 20+r.Intn(300), 1+r.Intn(80))
		for range 40 {
			switch r.Intn(9) {
			case 0, 1:
				n := r.Intn(12) - 1
				p.both(func(d *disk.Disk) { d.Stop(n) })
				p.calls += fmt.Sprintf("Stop(%d); ", n)
			case 2:
				p.open(t)
			case 3:
				if r.Intn(3) == 0 {
					p.spoils(r)
					p.open(t)
				}
			}
			p.do(t, someCall(r, has(p.v)), r.Intn(50), r.Intn(50), r.Intn(50), r.Intn(50))
		}
	}
}
