// Package mould is layer 1, values as bytes: each value of a shape has one form, and each form is one value's. See shared/doc/01-mould.md.
package mould

import (
	"bytes"

	"echelon/api"
)

// Right: are the shapes right?
func Right(shapes ...string) bool {
	for _, s := range shapes {
		if _, ok := parse(s); !ok {
			return false
		}
	}
	return true
}

// Is: is the shape right, and are the values of it?
func Is(shape string, vs ...api.Val) bool {
	p, ok := parse(shape)
	if !ok {
		return false
	}
	for _, v := range vs {
		if !p.walk(v, func(byte, api.Val) {}) {
			return false
		}
	}
	return true
}

// Put lays the values' forms, one behind the other. ErrShape, ErrArg.
func Put(shape string, vs ...api.Val) ([]byte, api.Errno) {
	p, ok := parse(shape)
	if !ok {
		return nil, api.ErrShape
	}
	var out []byte
	for _, v := range vs {
		if !p.walk(v, func(kind byte, v api.Val) { out = lay(out, kind, v) }) {
			return nil, api.ErrArg
		}
	}
	return out, api.OK
}

// Take reads one value, and no byte may be left behind it. ErrShape, ErrShort, ErrForm, ErrExtra.
func Take(shape string, b []byte) (api.Val, api.Errno) {
	p, ok := parse(shape)
	if !ok {
		return api.Val{}, api.ErrShape
	}
	r := reader{left: b}
	v, e := r.value(p)
	if e != api.OK {
		return api.Val{}, e
	}
	if len(r.left) > 0 {
		return api.Val{}, api.ErrExtra
	}
	return v, api.OK
}

// TakeAll reads values, one behind the other, to the end. ErrShape, ErrShort, ErrForm.
func TakeAll(shape string, b []byte) ([]api.Val, api.Errno) {
	p, ok := parse(shape)
	if !ok {
		return nil, api.ErrShape
	}
	// Values without a byte would never come to the end of some.
	if !p.solid && len(b) > 0 {
		return nil, api.ErrForm
	}
	r := reader{left: b}
	var vs []api.Val
	for len(r.left) > 0 {
		v, e := r.value(p)
		if e != api.OK {
			return nil, e
		}
		vs = append(vs, v)
	}
	return vs, api.OK
}

// Same: are both values of the shape, and have they one form?
func Same(shape string, a, b api.Val) bool {
	x, e := Put(shape, a)
	y, f := Put(shape, b)
	return e == api.OK && f == api.OK && bytes.Equal(x, y)
}
