package segment

import (
	"echelon/api"
	"echelon/disk"
)

// scan is what a disk has of any log: all its segments, and the entries ahead of what is torn. All of it may have outlived a crash unsynced.
func scan(d *disk.Disk) held {
	var h held
	torn := false
	for _, name := range d.Names() {
		first, ok := firstOf(name)
		if !ok {
			continue
		}
		b, _ := d.Read(name)
		f := file{first: first, last: first - 1, loose: true}
		// Behind a segment without bytes it would have to have that one's name.
		if n := len(h.files); n > 0 && h.files[n-1].last != f.last {
			torn = true
		}
		if !torn {
			h.take(&f, b)
		}
		f.torn = len(b) - f.size
		torn = torn || f.torn > 0
		h.files = append(h.files, f)
	}
	return h
}

// take takes from the front of a segment's bytes the rows that are the next entries'.
func (h *held) take(f *file, b []byte) {
	for f.size < len(b) {
		e, size, ok := entryOf(b[f.size:])
		if !ok || e.Index != f.last+1 || e.Term < h.last().Term {
			return
		}
		h.rows = append(h.rows, row{e, f.size})
		f.size, f.last = f.size+size, e.Index
	}
}

// fits: does what was scanned fit the mark?
func (h *held) fits(mark api.Mark) bool {
	if len(h.rows) == 0 {
		return len(h.files) > 0 && h.files[0].hollow() && h.files[0].first == mark.Index+1
	}
	first := h.rows[0]
	if first.Index == mark.Index+1 {
		return first.Term >= mark.Term
	}
	i := mark.Index - first.Index
	return i >= 0 && i < len(h.rows) && h.rows[i].Term == mark.Term
}

// settle lets what was scanned be a log behind a mark, and answers which of its segments stay.
func (h *held) settle(mark api.Mark) func(file) bool {
	if !h.fits(mark) {
		h.empty(mark)
		return func(file) bool { return false }
	}
	h.begin(mark)
	next := h.last().Index + 1
	return func(f file) bool { return f.has() || f.hollow() && f.first == next }
}
