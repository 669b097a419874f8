package disk

import (
	"echelon/api"
)

// isName: is it a name?
func isName(s string) bool {
	if s == "" || len(s) > api.MaxName {
		return false
	}
	for _, c := range []byte(s) {
		if !isNameByte(c) {
			return false
		}
	}
	return true
}

// isNameByte: may a name have it?
func isNameByte(c byte) bool {
	return 'a' <= c && c <= 'z' || '0' <= c && c <= '9' || c == '-' || c == '.'
}

// twice: is one named twice?
func twice(names []string) bool {
	seen := map[string]int{}
	for _, s := range names {
		seen[s]++
	}
	return len(seen) < len(names)
}
