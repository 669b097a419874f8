package segment

import (
	"strconv"
	"strings"
)

// A segment's name is the prefix and so many digits.
const (
	prefix = "seg-"
	digits = 10
)

// nameOf is the name of the segment whose first entry has an Index.
func nameOf(first int) string {
	s := strconv.Itoa(first)
	return prefix + strings.Repeat("0", max(digits-len(s), 0)) + s
}

// firstOf is the Index that a segment's name says: is it a segment's?
func firstOf(name string) (int, bool) {
	s, ok := strings.CutPrefix(name, prefix)
	if !ok || len(s) != digits {
		return 0, false
	}
	first := 0
	for _, c := range []byte(s) {
		if c < '0' || c > '9' {
			return 0, false
		}
		first = 10*first + int(c-'0')
	}
	return first, true
}
