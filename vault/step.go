package vault

import "echelon/api"

// step is a part of a call, which stands or fails by itself.
type step func() api.Errno

// inTurn does steps one behind the other, till one answers an error: what is ahead of it is done.
func inTurn(steps ...step) api.Errno {
	for _, do := range steps {
		if e := do(); e != api.OK {
			return e
		}
	}
	return api.OK
}
