package shelf

import (
	"slices"
	"strconv"
	"strings"

	"echelon/api"
	"echelon/disk"
)

// A snapshot's file is named by the prefix and so many digits; aside is the one that is written ahead of that.
const (
	prefix = "snap-"
	digits = 10
	aside  = "snap-new"
)

// nameOf is the name of the file of the snapshot with an Index, which has no more digits than a name.
func nameOf(index int) string {
	s := strconv.Itoa(index)
	return prefix + strings.Repeat("0", digits-len(s)) + s
}

// indexOf is the Index that a file's name says: is it a snapshot's?
func indexOf(name string) (int, bool) {
	s, ok := strings.CutPrefix(name, prefix)
	if !ok || len(s) != digits {
		return 0, false
	}
	index := 0
	for _, c := range []byte(s) {
		if c < '0' || c > '9' {
			return 0, false
		}
		index = 10*index + int(c-'0')
	}
	return index, true
}

// newestOn is a disk's whole snapshot with the greatest Index; the zero one, if there is none.
func newestOn(d *disk.Disk) api.Snap {
	// Of names with as many digits the last one says the greatest Index.
	for _, name := range slices.Backward(d.Names()) {
		if x, ok := read(d, name); ok {
			return x
		}
	}
	return api.Snap{}
}

// read is the snapshot that a file has: is the file whole?
func read(d *disk.Disk, name string) (api.Snap, bool) {
	index, ok := indexOf(name)
	if !ok {
		return api.Snap{}, false
	}
	b, _ := d.Read(name)
	x, e := Parse(b)
	if e != api.OK || x.Index != index {
		return api.Snap{}, false
	}
	return x, true
}

// write makes a file of these bytes: it has its name only when all of them are safe.
func write(d *disk.Disk, name string, b []byte) api.Errno {
	if e := dropAside(d); e != api.OK {
		return e
	}
	if e := d.Append(aside, b); e != api.OK {
		return e
	}
	if e := d.Sync(aside); e != api.OK {
		return e
	}
	return d.Rename(aside, name)
}

// dropAside removes what is aside, if it is there.
func dropAside(d *disk.Disk) api.Errno {
	if _, there := d.Read(aside); !there {
		return api.OK
	}
	return d.Remove(aside)
}
