package mould

import (
	"math/bits"

	"echelon/api"
)

// walk goes through a value by its shape, and tells the kind of each part and what stands there, in the order of the form: is the value of the shape?
func (p part) walk(v api.Val, tell func(kind byte, v api.Val)) bool {
	tell(p.kind, v)
	switch p.kind {
	case list:
		for _, x := range v.L {
			if !p.inner[0].walk(x, tell) {
				return false
			}
		}
	case row:
		if len(v.L) != len(p.inner) {
			return false
		}
		for i, x := range v.L {
			if !p.inner[i].walk(x, tell) {
				return false
			}
		}
	}
	return true
}

// lay lays what the form of a value has ahead of the forms of its parts.
func lay(out []byte, kind byte, v api.Val) []byte {
	switch kind {
	case number:
		return layNumber(out, v.N)
	case blob:
		return append(layNumber(out, uint64(len(v.B))), v.B...)
	case list:
		return layNumber(out, uint64(len(v.L)))
	}
	return out
}

// layNumber lays a number's form: how many bytes it takes, then these, the greatest first.
func layNumber(out []byte, n uint64) []byte {
	size := (bits.Len64(n) + 7) / 8
	out = append(out, byte(size))
	for i := size - 1; i >= 0; i-- {
		out = append(out, byte(n>>(8*i)))
	}
	return out
}
