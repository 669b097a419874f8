package segment

import (
	"slices"

	"echelon/api"
)

// held is what is held of a log: its mark, its entries, its segments, and up to which Index entries are synced.
type held struct {
	mark   api.Mark
	rows   []row
	files  []file
	synced int
}

// row is an entry, and where in its segment its row begins.
type row struct {
	api.Entry
	at int
}

// file is a segment: the Indexes of its first entry, as its name says, and of its last (one below, if it has none), also of those that aren't the log's any more.
type file struct {
	first, last int
	size        int  // its bytes that are rows
	torn        int  // its bytes behind them: none, once the log is open
	loose       bool // was it appended to since it was synced?
}

// has: has the segment entries?
func (f file) has() bool {
	return f.last >= f.first
}

// hollow: has the segment no bytes?
func (f file) hollow() bool {
	return f.size == 0 && f.torn == 0
}

// last is the last entry's place, or the mark.
func (h *held) last() api.Mark {
	if len(h.rows) == 0 {
		return h.mark
	}
	r := h.rows[len(h.rows)-1]
	return api.Mark{Index: r.Index, Term: r.Term}
}

// place is where among the rows an entry is: is it there?
func (h *held) place(index int) (int, bool) {
	if index <= h.mark.Index || index > h.last().Index {
		return 0, false
	}
	return index - h.mark.Index - 1, true
}

// begin lets the log begin behind a mark, with the entries there.
func (h *held) begin(mark api.Mark) {
	h.rows = slices.DeleteFunc(h.rows, func(r row) bool { return r.Index <= mark.Index })
	h.mark = mark
	h.synced = max(h.synced, mark.Index)
}

// empty lets the log begin behind a mark, without entries.
func (h *held) empty(mark api.Mark) {
	h.rows, h.mark, h.synced = nil, mark, mark.Index
}

// forget lets the entries from an index on go.
func (h *held) forget(index int) {
	stay := max(index-h.mark.Index-1, 0)
	h.rows = slices.Delete(h.rows, min(stay, len(h.rows)), len(h.rows))
	h.synced = min(h.synced, h.mark.Index+stay)
}

// loose are the names of the segments that were appended to since they were synced.
func (h *held) loose() []string {
	var names []string
	for _, f := range h.files {
		if f.loose {
			names = append(names, nameOf(f.first))
		}
	}
	return names
}

// tighten notes that all is synced.
func (h *held) tighten() {
	for i := range h.files {
		h.files[i].loose = false
	}
	h.synced = h.last().Index
}
