package hard

import (
	"echelon/api"
	"echelon/disk"
	"echelon/mould"
	"echelon/sum"
)

// The slots' files.
const (
	first  = "hard-0"
	second = "hard-1"
)

// row is the shape of what a slot says: its count, its term, its vote and one.
const row = "[nnn]"

// sumSize is how many bytes a slot's sum has.
const sumSize = 4

// slot is what a file says that is whole.
type slot struct {
	count int
	api.State
}

// none is what a file says that isn't: its count is below that of each that is.
func none() slot {
	return slot{0, api.State{Vote: nobody}}
}

// slots is the newest of a disk's slots, and the name of the one that may be written.
func slots(d *disk.Disk) (slot, string) {
	if d == nil {
		return none(), first
	}
	a, b := read(d, first), read(d, second)
	if a.count > 0 && a.count >= b.count {
		return a, second
	}
	return b, first
}

// read is what a slot says.
func read(d *disk.Disk, name string) slot {
	b, _ := d.Read(name)
	if len(b) < sumSize || sumOf(b[sumSize:]) != [sumSize]byte(b) {
		return none()
	}
	v, e := mould.Take(row, b[sumSize:])
	if e != api.OK {
		return none()
	}
	count, term, voted := v.L[0].N, v.L[1].N, v.L[2].N
	if count < 1 || count >= bound || term >= bound || voted > bound {
		return none()
	}
	return slot{int(count), api.State{Term: int(term), Vote: int(voted) - 1}}
}

// bytes is what a file has that says it.
func (s slot) bytes() []byte {
	b, _ := mould.Put(row, api.Val{L: []api.Val{{N: uint64(s.count)}, {N: uint64(s.Term)}, {N: uint64(s.Vote + 1)}}})
	ahead := sumOf(b)
	return append(ahead[:], b...)
}

// write lays a slot anew, and makes it safe.
func write(d *disk.Disk, name string, s slot) api.Errno {
	if _, there := d.Read(name); there {
		if e := d.Remove(name); e != api.OK {
			return e
		}
	}
	if e := d.Append(name, s.bytes()); e != api.OK {
		return e
	}
	return d.Sync(name)
}

// sumOf is the sum of bytes as it is laid, its greatest byte first.
func sumOf(b []byte) [sumSize]byte {
	x := sum.Of(b)
	return [sumSize]byte{byte(x >> 24), byte(x >> 16), byte(x >> 8), byte(x)}
}
