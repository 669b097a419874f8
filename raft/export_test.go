package raft

import (
	"math/rand"

	"echelon/api"
	"echelon/mould"
	"echelon/sum"
)

// Told is what a post tells of itself.
type Told struct {
	Leads, Votes bool // is it a leader's, and is it a vote for the one to whom it goes?
	Term, From   int
}

// Tell is what a post tells of itself, if a core may have made it.
func Tell(b []byte) (Told, bool) {
	m, ok := parse(b)
	if !ok {
		return Told{}, false
	}
	switch m := m.(type) {
	case ask:
		return Told{Term: m.term, From: m.from}, true
	case vote:
		return Told{Term: m.term, From: m.from, Votes: m.yes}, true
	case reply:
		return Told{Term: m.term, From: m.from}, true
	case feed:
		return Told{Term: m.term, From: m.from, Leads: true}, true
	}
	p := m.(part)
	return Told{Term: p.term, From: p.from, Leads: true}, true
}

// Forge makes bytes that have a right sum, and values of the shape of a kind, whatever these are.
func Forge(r *rand.Rand, kind byte) []byte {
	return Lay(kind, forged(r, shapeOf(kind), 0))
}

// Lay makes bytes of a kind that have a right sum, and this value.
func Lay(kind byte, v api.Val) []byte {
	form, e := mould.Put(shapeOf(kind), v)
	if e != api.OK {
		panic(e)
	}
	s := sum.Of([]byte{kind}, form)
	return append([]byte{byte(s >> 24), byte(s >> 16), byte(s >> 8), byte(s), kind}, form...)
}

// forged is a value of a row of numbers, bytes, and one list of rows of these.
func forged(r *rand.Rand, shape string, deep int) api.Val {
	var v api.Val
	for i := 1; i < len(shape)-1; i++ {
		switch shape[i] {
		case 'n':
			v.L = append(v.L, api.Val{N: number(r)})
		case 'b':
			v.L = append(v.L, api.Val{B: someBytes(r)})
		case '*':
			var list api.Val
			for range r.Intn(5) {
				list.L = append(list.L, forged(r, shape[i+1:len(shape)-1], deep+1))
			}
			v.L = append(v.L, list)
			i = len(shape)
		}
	}
	return v
}

func number(r *rand.Rand) uint64 {
	edges := []uint64{api.MaxIndex - 1, api.MaxIndex, api.MaxID - 1, api.MaxID, 1<<32 - 1, 1 << 32, 1<<31 - 1, 1 << 31, 1 << 62, 1<<62 - 1, 1<<63 - 1, 1 << 63, 1<<64 - 1}
	if r.Intn(30) == 0 {
		return edges[r.Intn(len(edges))]
	}
	return uint64(r.Intn([]int{2, 4, 9, 30}[r.Intn(4)]))
}

func someBytes(r *rand.Rand) []byte {
	switch r.Intn(3) {
	case 0:
		return nil
	case 1:
		return []byte{2, 1, 0, 1, 1, 0}[:r.Intn(7)]
	}
	b := make([]byte, r.Intn(9))
	r.Read(b)
	return b
}
