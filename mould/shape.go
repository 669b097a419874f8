package mould

import (
	"echelon/api"
)

// The kinds of a shape's parts, as they are written in it.
const (
	number = 'n'
	blob   = 'b'
	list   = '*'
	row    = '['
	rowEnd = ']'
)

// part is a shape that is read, or a part of one.
type part struct {
	kind  byte
	inner []part // what a list's values are; what a row has, one behind the other
	solid bool   // has each of its forms a byte at least?
}

// parse reads a shape: is it right?
func parse(shape string) (part, bool) {
	if len(shape) > api.MaxShape {
		return part{}, false
	}
	p, end, ok := parsePart(shape, 0, 0)
	if !ok || end != len(shape) {
		return part{}, false
	}
	return p, true
}

// parsePart reads the part that begins at a place of a shape and lies in so many lists and rows, and tells where it ends.
func parsePart(shape string, at, nest int) (part, int, bool) {
	if at >= len(shape) || nest > api.MaxNest {
		return part{}, 0, false
	}
	switch kind := shape[at]; kind {
	case number, blob:
		return part{kind: kind, solid: true}, at + 1, true
	case list:
		return parseList(shape, at+1, nest+1)
	case row:
		return parseRow(shape, at+1, nest+1)
	}
	return part{}, 0, false
}

// parseList reads a list from behind its star on.
func parseList(shape string, at, nest int) (part, int, bool) {
	p, end, ok := parsePart(shape, at, nest)
	if !ok {
		return part{}, 0, false
	}
	return part{kind: list, inner: []part{p}, solid: true}, end, true
}

// parseRow reads a row from behind its bracket on.
func parseRow(shape string, at, nest int) (part, int, bool) {
	all := part{kind: row}
	for at < len(shape) && shape[at] != rowEnd {
		p, end, ok := parsePart(shape, at, nest)
		if !ok {
			return part{}, 0, false
		}
		all.inner = append(all.inner, p)
		all.solid = all.solid || p.solid
		at = end
	}
	if at >= len(shape) {
		return part{}, 0, false
	}
	return all, at + 1, true
}
