package session

import (
	"bytes"
)

// top is what the numbers of clients, and of their operations, stay below.
const top = 1 << 40

// isClient: may a client have that number?
func isClient(client int) bool {
	return client >= 0 && client < top
}

// isSeq: may an operation?
func isSeq(seq int) bool {
	return seq >= 1 && seq < top
}

// answerOf is what an operation answers, in new memory. One that isn't there, or that panics, answers nothing, and is done: whatever it is, Once comes to its end, and doesn't begin it again.
func answerOf(do func() []byte) (answer []byte) {
	defer func() {
		if recover() != nil {
			answer = nil
		}
	}()
	return bytes.Clone(do())
}
