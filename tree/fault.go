package tree

import "espalier/api"

// fault is what is thrown: the error that the call then answers.
type fault api.Errno

// must throws an error, if it is one.
func must(e api.Errno) {
	if e != api.OK {
		panic(fault(e))
	}
}

// caught is what work answers, or the error that it throws, and then nothing else.
func caught[T any](work func() T) (answer T, e api.Errno) {
	defer func() {
		switch thrown := recover().(type) {
		case nil:
		case fault:
			e = api.Errno(thrown)
		default:
			// Nothing of ours: it is the room's business, or the caller's.
			panic(thrown)
		}
	}()
	return work(), api.OK
}
