package disk

// file is one of a disk's: its bytes, of which the first ones are safe.
type file struct {
	bytes []byte
	safe  int
}

// lay lays bytes behind the file's.
func (f *file) lay(bs [][]byte) {
	for _, b := range bs {
		f.bytes = append(f.bytes, b...)
	}
}

// sync makes all bytes safe.
func (f *file) sync() {
	f.safe = len(f.bytes)
}

// cut leaves the first n bytes, and tells how many are gone.
func (f *file) cut(n int) int {
	gone := len(f.bytes) - n
	f.bytes = f.bytes[:n]
	f.safe = min(f.safe, n)
	return gone
}

// crash leaves what is safe and so many bytes behind it, and tells how many are gone.
func (f *file) crash(keep int) int {
	// Held to what there is ahead of any sum: keep may be the greatest number.
	keep = min(max(keep, 0), len(f.bytes)-f.safe)
	gone := f.cut(f.safe + keep)
	f.sync()
	return gone
}
