package segment_test

import (
	"fmt"
	"math/rand"
	"regexp"
	"slices"
	"strconv"
	"testing"

	"echelon/api"
	"echelon/disk"
	"echelon/segment"
)

// model does on a disk of its own what the chapter says, call by call, slow and plain: what it needs to know of segments it reads from them.
type model struct {
	d      *disk.Disk
	m      api.Mark
	size   int
	es     []api.Entry
	synced int
	loose  []string
}

// segments are the names of a disk's segments, rising.
func segments(d *disk.Disk) []string {
	var out []string
	for _, name := range d.Names() {
		if regexp.MustCompile("^seg-[0-9]{10}$").MatchString(name) {
			out = append(out, name)
		}
	}
	return out
}

func says(name string) int {
	n, _ := strconv.Atoi(name[4:])
	return n
}

func bytesIn(d *disk.Disk, name string) []byte {
	b, _ := d.Read(name)
	return b
}

// numberAt is the number that may be meant there, and where what is behind it begins.
func numberAt(b []byte, i int) (int, int) {
	n := 0
	if i >= len(b) || i < 0 {
		return 0, -1
	}
	for j := i + 1; j <= i+int(b[i]); j++ {
		if j >= len(b) {
			return 0, -1
		}
		n = n<<8 | int(b[j])
	}
	return n, i + 1 + int(b[i])
}

// rowAt is the entry whose row the front of these bytes is, and how many bytes that has: the one that may be meant, if its row is these bytes.
func rowAt(b []byte) (api.Entry, int) {
	index, i := numberAt(b, 8)
	term, i := numberAt(b, i)
	kind, i := numberAt(b, i)
	size, i := numberAt(b, i)
	if i < 0 || size < 0 || size > len(b)-i || index < 1 || index >= top || term < 1 || term >= top || kind < 0 || kind > 255 {
		return api.Entry{}, 0
	}
	e := api.Entry{Index: index, Term: term, Kind: kind, Body: slices.Clone(b[i : i+size])}
	if string(rows(e)) != string(b[:i+size]) {
		return api.Entry{}, 0
	}
	return e, i + size
}

// scan is what was scanned, and how many bytes of each segment that takes.
func (m *model) scan() ([]api.Entry, map[string]int) {
	var all []api.Entry
	left := map[string]int{}
	ahead := ""
	for _, name := range segments(m.d) {
		if ahead != "" && (left[ahead] == 0 || all[len(all)-1].Index+1 != says(name)) {
			return all, left
		}
		for b := bytesIn(m.d, name); left[name] < len(b); {
			e, n := rowAt(b[left[name]:])
			switch {
			case n == 0,
				left[name] == 0 && e.Index != says(name),
				left[name] > 0 && e.Index != all[len(all)-1].Index+1,
				len(all) > 0 && e.Term < all[len(all)-1].Term:
				return all, left
			}
			all = append(all, e)
			left[name] += n
		}
		ahead = name
	}
	return all, left
}

// fits: does that fit the mark?
func (m *model) fits(all []api.Entry) bool {
	for _, e := range all {
		if e.Index == m.m.Index && e.Term == m.m.Term {
			return true
		}
	}
	if len(all) > 0 {
		return all[0].Index == m.m.Index+1 && all[0].Term >= m.m.Term
	}
	names := segments(m.d)
	return len(names) > 0 && len(bytesIn(m.d, names[0])) == 0 && says(names[0]) == m.m.Index+1
}

func (m *model) open() api.Errno {
	all, left := m.scan()
	fits := m.fits(all)
	m.es, m.loose = nil, nil
	for _, e := range all {
		if fits && e.Index > m.m.Index {
			m.es = append(m.es, e)
		}
	}
	next := m.last().Index + 1
	names := segments(m.d)
	slices.Reverse(names)
	for _, name := range names {
		if fits && (left[name] > 0 || len(bytesIn(m.d, name)) == 0 && says(name) == next) {
			continue
		}
		if e := m.d.Remove(name); e != api.OK {
			return e
		}
	}
	for _, name := range segments(m.d) {
		if left[name] < len(bytesIn(m.d, name)) {
			if e := m.d.Cut(name, left[name]); e != api.OK {
				return e
			}
		}
	}
	if names := segments(m.d); len(names) > 0 {
		if e := m.d.Sync(names...); e != api.OK {
			return e
		}
	}
	m.synced = m.last().Index
	return api.OK
}

func (m *model) last() api.Mark {
	if len(m.es) == 0 {
		return m.m
	}
	e := m.es[len(m.es)-1]
	return mark(e.Index, e.Term)
}

func (m *model) append(es []api.Entry) api.Errno {
	ahead := m.last()
	for _, e := range es {
		if e.Index != ahead.Index+1 || e.Term < ahead.Term || e.Term < 1 || e.Kind < 0 || e.Kind > 255 || e.Index >= top || e.Term >= top || len(e.Body) > 1<<20 {
			return api.ErrArg
		}
		ahead = mark(e.Index, e.Term)
	}
	if len(rows(es...)) > m.d.Free() {
		return api.ErrFull
	}
	for _, e := range es {
		name := seg(e.Index)
		if names := segments(m.d); len(names) > 0 && len(bytesIn(m.d, names[len(names)-1])) < m.size {
			name = names[len(names)-1]
		}
		if err := m.d.Append(name, rows(e)); err != api.OK {
			return err
		}
		if !slices.Contains(m.loose, name) {
			m.loose = append(m.loose, name)
		}
		m.es = append(m.es, e)
	}
	return api.OK
}

func (m *model) sync() api.Errno {
	if len(m.loose) > 0 {
		if e := m.d.Sync(m.loose...); e != api.OK {
			return e
		}
	}
	m.loose, m.synced = nil, m.last().Index
	return api.OK
}

// remove removes a segment, which isn't to be synced then.
func (m *model) remove(name string) api.Errno {
	e := m.d.Remove(name)
	if e == api.OK {
		m.loose = slices.DeleteFunc(m.loose, func(s string) bool { return s == name })
	}
	return e
}

func (m *model) cutFrom(index int) api.Errno {
	if index <= m.m.Index {
		return api.ErrArg
	}
	if index > m.last().Index {
		return api.OK
	}
	names := segments(m.d)
	slices.Reverse(names)
	for _, name := range names {
		if says(name) >= index {
			if e := m.remove(name); e != api.OK {
				return e
			}
		}
	}
	for _, name := range segments(m.d) {
		b := bytesIn(m.d, name)
		for i := 0; i < len(b); {
			e, n := rowAt(b[i:])
			if e.Index == index {
				if e := m.d.Cut(name, i); e != api.OK {
					return e
				}
				break
			}
			i += n
		}
	}
	m.es = m.es[: index-m.m.Index-1 : index-m.m.Index-1]
	m.synced = min(m.synced, index-1)
	return api.OK
}

func (m *model) dropTo(to api.Mark) api.Errno {
	if to.Index < m.m.Index || to.Index == m.m.Index && to.Term != m.m.Term || to.Index > m.last().Index {
		return api.ErrArg
	}
	var stay []api.Entry
	for _, e := range m.es {
		if e.Index == to.Index && e.Term != to.Term {
			return api.ErrArg
		}
		if e.Index > to.Index {
			stay = append(stay, e)
		}
	}
	m.m, m.es, m.synced = to, stay, max(m.synced, to.Index)
	for _, name := range segments(m.d) {
		had, behind := 0, 0
		for b := bytesIn(m.d, name); len(b) > 0; had++ {
			e, n := rowAt(b)
			b = b[n:]
			if e.Index > to.Index {
				behind++
			}
		}
		if had == 0 || behind > 0 {
			break
		}
		if e := m.remove(name); e != api.OK {
			return e
		}
	}
	return api.OK
}

func (m *model) reset(to api.Mark) api.Errno {
	if to.Index < 0 || to.Index >= top || to.Term < 0 || to.Term >= top {
		return api.ErrArg
	}
	m.m, m.es, m.synced = to, nil, to.Index
	names := segments(m.d)
	slices.Reverse(names)
	for _, name := range names {
		if e := m.remove(name); e != api.OK {
			return e
		}
	}
	return api.OK
}

// pair is a log and the model, each on a disk of its own, on which the same is done; and the calls up to now.
type pair struct {
	l     *segment.Log
	d     *disk.Disk
	m     *model
	calls string
}

func (p *pair) both(do func(d *disk.Disk)) {
	do(p.d)
	do(p.m.d)
}

// check holds the log's answer against the model's, and what both then have; behind a stop the disks alone.
func (p *pair) check(t *testing.T, r *rand.Rand, what string, got, want api.Errno) {
	t.Helper()
	p.calls += what + " "
	if got != want {
		t.Fatalf("%s: %d, not %d", p.calls, got, want)
	}
	if a, b := tell(p.d), tell(p.m.d); a != b {
		t.Fatalf("%s: there is\n%s, not\n%s", p.calls, a, b)
	}
	if got == api.ErrStop {
		p.crash(t, r)
		return
	}
	has(t, p.calls, p.l, p.m.m, p.m.synced, p.m.es...)
}

// crash lets both disks crash and opens the log anew: of what it had, what was synced is there, and nothing but what it had.
func (p *pair) crash(t *testing.T, r *rand.Rand) {
	t.Helper()
	keep := make([]int, 12)
	for i := range keep {
		keep[i] = []int{0, 5, 16, 17, 20, 40, 99}[r.Intn(7)]
	}
	p.both(func(d *disk.Disk) { d.Crash(keep...) })
	p.calls += fmt.Sprintf("Crash(%d) ", keep)
	p.open(t, r)
}

// open opens the log anew, which may be stopped, too.
func (p *pair) open(t *testing.T, r *rand.Rand) {
	t.Helper()
	p.m.size = []int{1, 20, 40, 60, 500}[r.Intn(5)]
	l, e := segment.Open(p.d, p.m.m, p.m.size)
	p.l = l
	if e != api.OK && l != nil {
		t.Fatalf("%s: Open: %v, %d", p.calls, l, e)
	}
	want := p.m.open()
	p.check(t, r, fmt.Sprintf("Open(%v, %d)", p.m.m, p.m.size), e, want)
}

// someEntries draws entries of which most are the next ones.
func (p *pair) someEntries(r *rand.Rand) []api.Entry {
	var es []api.Entry
	last := p.m.last()
	for range r.Intn(5) {
		last.Index++
		last.Term = max(last.Term+r.Intn(6)/5, 1)
		es = append(es, api.Entry{Index: last.Index, Term: last.Term, Kind: r.Intn(3), Body: make([]byte, r.Intn(4)*r.Intn(10))})
	}
	if len(es) == 0 || r.Intn(8) > 0 {
		return es
	}
	e := &es[r.Intn(len(es))]
	switch r.Intn(4) {
	case 0:
		e.Index += r.Intn(3) - 1
	case 1:
		e.Term += r.Intn(5) - 3
	case 2:
		e.Kind = []int{-1, 0, 255, 256}[r.Intn(4)]
	case 3:
		e.Body = make([]byte, []int{200, 1<<20 + 1}[r.Intn(2)])
	}
	return es
}

// someMark draws marks of which most are in the log, or near it.
func (p *pair) someMark(r *rand.Rand) api.Mark {
	index := p.m.m.Index + r.Intn(len(p.m.es)+2) - r.Intn(8)/7
	term := p.m.m.Term
	if i := index - p.m.m.Index - 1; i >= 0 && i < len(p.m.es) {
		term = p.m.es[i].Term
	}
	return mark(index, term+r.Intn(10)/9-r.Intn(10)/9)
}

// spoil changes something on both disks, behind which the log is opened anew.
func (p *pair) spoil(t *testing.T, r *rand.Rand) {
	t.Helper()
	names := segments(p.d)
	name := seg(p.m.last().Index + r.Intn(4) - 1)
	if len(names) > 0 && r.Intn(3) > 0 {
		name = names[r.Intn(len(names))]
	}
	b := bytesIn(p.d, name)
	switch r.Intn(6) {
	case 0:
		b = b[:r.Intn(len(b)+1)]
	case 1:
		if len(b) > 0 {
			b[r.Intn(len(b))] ^= 1 << r.Intn(8)
		}
	case 2:
		b = append(b, rows(at(p.m.last().Index+r.Intn(3), max(p.m.last().Term+r.Intn(3)-1, 0), 'x'))...)
	case 3:
		b = append(b, make([]byte, r.Intn(20))...)
	case 4:
		b = nil
	case 5:
		p.m.m = p.someMark(r)
		p.m.m = mark(max(p.m.m.Index, 0), max(p.m.m.Term, 0))
	}
	p.both(func(d *disk.Disk) {
		d.Stop(-1)
		d.Remove(name)
		d.Append(name, b)
	})
	p.calls += fmt.Sprintf("%s=%x, mark %v ", name, b, p.m.m)
	p.open(t, r)
}

// turn does one call on both.
func (p *pair) turn(t *testing.T, r *rand.Rand) {
	t.Helper()
	switch r.Intn(20) {
	default:
		es := p.someEntries(r)
		p.check(t, r, fmt.Sprintf("Append(%d from %d)", len(es), p.m.last().Index+1), p.l.Append(es...), p.m.append(es))
	case 0, 1, 2, 3:
		p.check(t, r, "Sync", p.l.Sync(), p.m.sync())
	case 4, 5, 6:
		index := p.m.last().Index - r.Intn(6) + r.Intn(8)/7
		p.check(t, r, fmt.Sprintf("CutFrom(%d)", index), p.l.CutFrom(index), p.m.cutFrom(index))
	case 7, 8:
		to := p.someMark(r)
		p.check(t, r, fmt.Sprintf("DropTo(%v)", to), p.l.DropTo(to), p.m.dropTo(to))
	case 9:
		if r.Intn(3) == 0 {
			to := p.someMark(r)
			p.check(t, r, fmt.Sprintf("Reset(%v)", to), p.l.Reset(to), p.m.reset(to))
		}
	case 10, 11:
		n := r.Intn(9) - 1
		p.both(func(d *disk.Disk) { d.Stop(n) })
		p.calls += fmt.Sprintf("Stop(%d) ", n)
	case 12:
		p.crash(t, r)
	case 13:
		p.open(t, r)
	case 14:
		if r.Intn(3) == 0 {
			p.spoil(t, r)
		}
	}
}

// TestModel: of long rows of calls each answers as the model, and leaves the disk as it.
func TestModel(t *testing.T) {
	r := rand.New(rand.NewSource(5))
	for range 1500 {
		room := 60 + r.Intn(4)*r.Intn(200)
		p := &pair{d: space(t, room), m: &model{d: space(t, room), m: mark(r.Intn(3), r.Intn(3))}}
		p.open(t, r)
		for range 60 {
			p.turn(t, r)
		}
	}
}
