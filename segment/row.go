package segment

import (
	"echelon/api"
	"echelon/mould"
	"echelon/sum"
)

// shape is the shape of a row's form: Index, Term, Kind, Body.
const shape = "[nnnb]"

// wordSize is how many bytes a row's sum has, and its length; headSize is both.
const (
	wordSize = 4
	headSize = 2 * wordSize
)

// mostKind is the greatest Kind.
const mostKind = 255

// rowOf is an entry's row: its sum, its length, its form.
func rowOf(e api.Entry) []byte {
	form, _ := mould.Put(shape, api.Val{L: []api.Val{{N: uint64(e.Index)}, {N: uint64(e.Term)}, {N: uint64(e.Kind)}, {B: e.Body}}})
	size := layWord(nil, uint32(len(form)))
	head := append(layWord(nil, sum.Of(size, form)), size...)
	return append(head, form...)
}

// entryOf is the entry whose row stands at the front of bytes, and how many bytes the row has: is there one?
func entryOf(b []byte) (api.Entry, int, bool) {
	if len(b) < headSize {
		return api.Entry{}, 0, false
	}
	size := int(word(b[wordSize:]))
	if size > len(b)-headSize {
		return api.Entry{}, 0, false
	}
	b = b[:headSize+size]
	if !sum.Fits(word(b), b[wordSize:]) {
		return api.Entry{}, 0, false
	}
	v, e := mould.Take(shape, b[headSize:])
	if e != api.OK {
		return api.Entry{}, 0, false
	}
	index, term, kind := v.L[0].N, v.L[1].N, v.L[2].N
	if !isNumber(index) || !isNumber(term) || kind > mostKind {
		return api.Entry{}, 0, false
	}
	return api.Entry{Index: int(index), Term: int(term), Kind: int(kind), Body: v.L[3].B}, len(b), true
}

// isNumber: may an entry have it as its Index, or its Term?
func isNumber(n uint64) bool {
	return n >= 1 && n < api.MaxIndex
}

// follow: are they the next entries behind a place?
func follow(last api.Mark, es []api.Entry) bool {
	for _, e := range es {
		if e.Index != last.Index+1 || e.Index >= api.MaxIndex {
			return false
		}
		if e.Term < max(last.Term, 1) || e.Term >= api.MaxIndex {
			return false
		}
		if e.Kind < 0 || e.Kind > mostKind || len(e.Body) > api.MaxBody {
			return false
		}
		last = api.Mark{Index: e.Index, Term: e.Term}
	}
	return true
}

// isMark: may a log begin behind it?
func isMark(m api.Mark) bool {
	return m.Index >= 0 && m.Index < api.MaxIndex && m.Term >= 0 && m.Term < api.MaxIndex
}

// copied is an entry with a Body of its own.
func copied(e api.Entry) api.Entry {
	e.Body = append([]byte(nil), e.Body...)
	return e
}

// layWord lays four bytes behind others, the greatest first.
func layWord(out []byte, x uint32) []byte {
	return append(out, byte(x>>24), byte(x>>16), byte(x>>8), byte(x))
}

// word reads what layWord lays.
func word(b []byte) uint32 {
	return uint32(b[0])<<24 | uint32(b[1])<<16 | uint32(b[2])<<8 | uint32(b[3])
}
