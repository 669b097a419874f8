package shelf

import (
	"echelon/api"
	"echelon/mould"
	"echelon/sum"
)

// shape is the shape of a snapshot's form: Index, Term, Conf, Body.
const shape = "[nnbb]"

// sumSize is how many bytes a snapshot's sum has.
const sumSize = 4

// formOf is a snapshot's form.
func formOf(x api.Snap) []byte {
	b, _ := mould.Put(shape, api.Val{L: []api.Val{{N: uint64(x.Index)}, {N: uint64(x.Term)}, {B: x.Conf}, {B: x.Body}}})
	return b
}

// take is the snapshot of a form.
func take(form []byte) (api.Snap, api.Errno) {
	v, e := mould.Take(shape, form)
	if e != api.OK {
		return api.Snap{}, e
	}
	x := api.Snap{Mark: api.Mark{Index: int(v.L[0].N), Term: int(v.L[1].N)}, Conf: v.L[2].B, Body: v.L[3].B}
	// A number above the ints comes to be one below 0, which is refused as well.
	if !isMark(x.Mark) {
		return api.Snap{}, api.ErrForm
	}
	return x, api.OK
}

// isMark: may a snapshot stand there?
func isMark(m api.Mark) bool {
	return m.Index >= 1 && m.Index < api.MaxIndex && m.Term >= 1 && m.Term < api.MaxIndex
}

// sumOf is the sum of bytes as it is laid, its greatest byte first.
func sumOf(b []byte) []byte {
	x := sum.Of(b)
	return []byte{byte(x >> 24), byte(x >> 16), byte(x >> 8), byte(x)}
}

// copied is a snapshot with bytes of its own.
func copied(x api.Snap) api.Snap {
	x.Conf = append([]byte(nil), x.Conf...)
	x.Body = append([]byte(nil), x.Body...)
	return x
}
