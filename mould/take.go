package mould

import (
	"echelon/api"
)

// mostHollow is how many values a list may have whose forms have no byte: no bytes that are left bound it.
const mostHollow = 1 << 20

// reader reads forms from the front of bytes.
type reader struct {
	left []byte
}

// value reads a value of a shape.
func (r *reader) value(p part) (api.Val, api.Errno) {
	return readerOf(p.kind)(r, p)
}

// readerOf is what reads a value of a kind.
func readerOf(kind byte) func(*reader, part) (api.Val, api.Errno) {
	switch kind {
	case number:
		return (*reader).number
	case blob:
		return (*reader).blob
	case list:
		return (*reader).list
	}
	return (*reader).row
}

func (r *reader) number(part) (api.Val, api.Errno) {
	n, e := r.digits()
	return api.Val{N: n}, e
}

func (r *reader) blob(part) (api.Val, api.Errno) {
	n, e := r.digits()
	if e != api.OK {
		return api.Val{}, e
	}
	if n > uint64(len(r.left)) {
		return api.Val{}, api.ErrShort
	}
	return api.Val{B: r.cut(int(n))}, api.OK
}

func (r *reader) list(p part) (api.Val, api.Errno) {
	n, e := r.digits()
	if e != api.OK {
		return api.Val{}, e
	}
	if p.inner[0].solid && n > uint64(len(r.left)) {
		return api.Val{}, api.ErrShort
	}
	if !p.inner[0].solid && n > mostHollow {
		return api.Val{}, api.ErrForm
	}
	var vs []api.Val
	for range n {
		v, e := r.value(p.inner[0])
		if e != api.OK {
			return api.Val{}, e
		}
		vs = append(vs, v)
	}
	return api.Val{L: vs}, api.OK
}

func (r *reader) row(p part) (api.Val, api.Errno) {
	var vs []api.Val
	for _, inner := range p.inner {
		v, e := r.value(inner)
		if e != api.OK {
			return api.Val{}, e
		}
		vs = append(vs, v)
	}
	return api.Val{L: vs}, api.OK
}

// digits reads a number. The first fault from the front is told: a 0 that may not lead stands ahead of bytes that are missing.
func (r *reader) digits() (uint64, api.Errno) {
	if len(r.left) == 0 {
		return 0, api.ErrShort
	}
	size := int(r.left[0])
	if size > 8 {
		return 0, api.ErrForm
	}
	if size > 0 && len(r.left) > 1 && r.left[1] == 0 {
		return 0, api.ErrForm
	}
	if len(r.left) <= size {
		return 0, api.ErrShort
	}
	n := uint64(0)
	for _, d := range r.left[1 : 1+size] {
		n = n<<8 | uint64(d)
	}
	r.left = r.left[1+size:]
	return n, api.OK
}

// cut takes bytes from the front: new memory, nil for none.
func (r *reader) cut(n int) []byte {
	b := append([]byte(nil), r.left[:n]...)
	r.left = r.left[n:]
	return b
}
