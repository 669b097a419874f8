package disk

import (
	"echelon/api"
)

// work does one of the calls that change a disk, if it comes ahead of the stop; one that answers an error is a call done, too.
func (d *Disk) work(do func() api.Errno) api.Errno {
	switch d.rest {
	case 0:
		return api.ErrStop
	case endless:
	default:
		d.rest--
	}
	return do()
}

// has: is each file there?
func (d *Disk) has(names []string) bool {
	for _, s := range names {
		if d.files[s] == nil {
			return false
		}
	}
	return true
}

// drop lets a file go, if it is there.
func (d *Disk) drop(name string) {
	if f := d.files[name]; f != nil {
		d.free += len(f.bytes)
		delete(d.files, name)
	}
}

// fit is what is left of a room when these bytes are in it: do they fit?
func fit(room int, bs [][]byte) (int, bool) {
	for _, b := range bs {
		if len(b) > room {
			return 0, false
		}
		room -= len(b)
	}
	return room, true
}
