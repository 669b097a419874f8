package segment

import (
	"slices"

	"echelon/api"
)

// mend takes away what a scan found torn: the segments that don't stay, and what is behind the rows of one that does; and makes the rest safe.
func (l *Log) mend(stays func(file) bool) api.Errno {
	if e := l.strip(func(f file) bool { return !stays(f) }); e != api.OK {
		return e
	}
	for i, f := range l.files {
		if f.torn > 0 {
			if e := l.cut(i, f.size, f.last); e != api.OK {
				return e
			}
		}
	}
	return l.Sync()
}

// strip removes the segments that are to go, the last one first: wherever a stop ends it, no gap is left.
func (l *Log) strip(goes func(file) bool) api.Errno {
	for i, f := range slices.Backward(l.files) {
		if !goes(f) {
			continue
		}
		if e := l.remove(i); e != api.OK {
			return e
		}
		// One that has no entries may have the name of another one's: it takes none with it.
		if f.has() {
			l.forget(f.first)
		}
	}
	return api.OK
}

// remove removes a segment.
func (l *Log) remove(i int) api.Errno {
	if e := l.disk.Remove(nameOf(l.files[i].first)); e != api.OK {
		return e
	}
	l.files = slices.Delete(l.files, i, i+1)
	return api.OK
}

// cut leaves a segment's first bytes, which are the rows up to an Index.
func (l *Log) cut(i, size, last int) api.Errno {
	f := &l.files[i]
	if e := l.disk.Cut(nameOf(f.first), size); e != api.OK {
		return e
	}
	f.size, f.torn, f.last = size, 0, last
	return api.OK
}

// lay lays an entry's row behind the others: in a new segment, if there is none, or the last one has bytes enough.
func (l *Log) lay(e api.Entry, b []byte) api.Errno {
	f, stay := file{first: e.Index}, len(l.files)
	if stay > 0 && l.files[stay-1].size < l.least {
		stay--
		f = l.files[stay]
	}
	if err := l.disk.Append(nameOf(f.first), b); err != api.OK {
		return err
	}
	l.rows = append(l.rows, row{copied(e), f.size})
	f.size, f.last, f.loose = f.size+len(b), e.Index, true
	l.files = append(l.files[:stay], f)
	return api.OK
}
