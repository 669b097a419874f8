package shelf_test

import (
	"fmt"
	"math/rand"
	"regexp"
	"strconv"
	"testing"

	"echelon/api"
	"echelon/disk"
	"echelon/shelf"
)

// model does on a disk of its own what the chapter says, call by call, slow and plain.
type model struct {
	d      *disk.Disk
	newest api.Snap
}

// says is the Index that a file's name says; -1, if it isn't a snapshot's.
func says(name string) int {
	if !regexp.MustCompile("^snap-[0-9]{10}$").MatchString(name) {
		return -1
	}
	n, _ := strconv.Atoi(name[5:])
	return n
}

// numberAt is the number that may be meant there, and where what is behind it begins.
func numberAt(b []byte, i int) (int, int) {
	n := 0
	if i >= len(b) || i < 0 {
		return 0, -1
	}
	for j := i + 1; j <= i+int(b[i]); j++ {
		if j >= len(b) {
			return 0, -1
		}
		n = n<<8 | int(b[j])
	}
	return n, i + 1 + int(b[i])
}

// textAt is the text that may be meant there, and where what is behind it begins.
func textAt(b []byte, i int) ([]byte, int) {
	n, i := numberAt(b, i)
	if i < 0 || n < 0 || n > len(b)-i {
		return nil, -1
	}
	return b[i : i+n], i + n
}

// reads is the snapshot that may be meant by bytes, if its bytes are these.
func reads(b []byte) (api.Snap, bool) {
	index, i := numberAt(b, 4)
	term, i := numberAt(b, i)
	conf, i := textAt(b, i)
	body, i := textAt(b, i)
	x := api.Snap{Mark: api.Mark{Index: index, Term: term}, Conf: conf, Body: body}
	return x, i == len(b) && may(index) && may(term) && string(laid(x)) == string(b)
}

func (m *model) open() {
	m.newest = api.Snap{}
	for _, name := range m.d.Names() {
		b, _ := m.d.Read(name)
		if x, ok := reads(b); ok && x.Index == says(name) && x.Index > m.newest.Index {
			m.newest = x
		}
	}
}

// dropAside does what is to be done with what is aside.
func (m *model) dropAside() api.Errno {
	if _, there := m.d.Read(aside); there {
		return m.d.Remove(aside)
	}
	return api.OK
}

func (m *model) put(x api.Snap) api.Errno {
	if !may(x.Index) || !may(x.Term) || x.Index <= m.newest.Index {
		return api.ErrArg
	}
	for _, do := range []func() api.Errno{
		m.dropAside,
		func() api.Errno { return m.d.Append(aside, laid(x)) },
		func() api.Errno { return m.d.Sync(aside) },
		func() api.Errno { return m.d.Rename(aside, name(x.Index)) },
	} {
		if e := do(); e != api.OK {
			return e
		}
	}
	m.newest = x
	return api.OK
}

func (m *model) clean() api.Errno {
	for _, name := range m.d.Names() {
		if n := says(name); n >= 0 && n < m.newest.Index {
			if e := m.d.Remove(name); e != api.OK {
				return e
			}
		}
	}
	return m.dropAside()
}

// pair is a shelf and the model, each on a disk of its own, on which the same is done; and the calls up to now.
type pair struct {
	s     *shelf.Shelf
	d     *disk.Disk
	m     *model
	calls string
}

func (p *pair) both(do func(d *disk.Disk)) {
	do(p.d)
	do(p.m.d)
}

// check holds the shelf's answer against the model's, what both then have, and their disks.
func (p *pair) check(t *testing.T, what string, got, want api.Errno) {
	t.Helper()
	p.calls += what + " "
	is(t, p.calls, got, want)
	kept(t, p.calls, p.d, tell(p.m.d))
	holds(t, p.calls, p.s, p.m.newest)
}

func (p *pair) open(t *testing.T) {
	t.Helper()
	p.s = open(t, p.calls, p.d)
	p.m.open()
	p.check(t, "Open", api.OK, api.OK)
}

// someSnap draws snapshots of which most may be put.
func (p *pair) someSnap(r *rand.Rand) api.Snap {
	x := api.Snap{Mark: api.Mark{Index: p.m.newest.Index + 1 + r.Intn(3) - r.Intn(5)/4, Term: r.Intn(9)}}
	if r.Intn(40) == 0 {
		x.Term = top - r.Intn(2)
	}
	if r.Intn(40) == 0 {
		x.Index = top - r.Intn(2)
	}
	x.Conf, x.Body = make([]byte, r.Intn(3)), make([]byte, r.Intn(4)*r.Intn(12))
	r.Read(x.Conf)
	r.Read(x.Body)
	return x
}

// spoil changes a file of both disks, or makes one.
func (p *pair) spoil(r *rand.Rand) {
	x := p.someSnap(r)
	b := laid(x)
	switch r.Intn(6) {
	case 0:
		b = b[:r.Intn(len(b))]
	case 1:
		b[r.Intn(len(b))] ^= 1 << r.Intn(8)
	case 2:
		b = append(b, 0)
	case 3:
		b = sealed(b[4 : 4+r.Intn(len(b)-3)])
	}
	file := name(max(x.Index+r.Intn(3)/2, 0))
	if names := p.d.Names(); len(names) > 0 && r.Intn(3) == 0 {
		file = names[r.Intn(len(names))]
	}
	if r.Intn(5) == 0 {
		file = aside
	}
	p.both(func(d *disk.Disk) {
		d.Stop(-1)
		d.Remove(file)
		d.Append(file, b)
	})
	p.calls += fmt.Sprintf("%s=%x ", file, b)
}

// turn does one call on both.
func (p *pair) turn(t *testing.T, r *rand.Rand) {
	t.Helper()
	switch r.Intn(20) {
	default:
		x := p.someSnap(r)
		p.check(t, fmt.Sprintf("Put(%v, %d bytes)", x.Mark, len(laid(x))), p.s.Put(x), p.m.put(x))
	case 0, 1, 2:
		p.check(t, "Clean", p.s.Clean(), p.m.clean())
	case 3, 4, 5:
		n := r.Intn(7) - 1
		p.both(func(d *disk.Disk) { d.Stop(n) })
		p.calls += fmt.Sprintf("Stop(%d) ", n)
	case 6, 7:
		keep := []int{r.Intn(40), r.Intn(40), r.Intn(40), r.Intn(40), r.Intn(40)}
		p.both(func(d *disk.Disk) { d.Crash(keep...) })
		p.calls += fmt.Sprintf("Crash(%d) ", keep)
		p.open(t)
	case 8:
		p.open(t)
	case 9:
		if r.Intn(2) == 0 {
			p.spoil(r)
			p.open(t)
		}
	}
}

// TestModel: of long rows of calls each answers as the model, and leaves the disk as it.
func TestModel(t *testing.T) {
	r := rand.New(rand.NewSource(7))
	for range 2000 {
		room := r.Intn(150)
		p := &pair{d: space(t, room), m: &model{d: space(t, room)}}
		p.open(t)
		for range 50 {
			p.turn(t, r)
		}
	}
}
