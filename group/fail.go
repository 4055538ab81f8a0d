package group

import "pyx/api"

// failure is an error that is handed up by a panic, past all that has nothing left to do then.
type failure api.Errno

// tried is the error that was handed up from what is done; OK, if none was. Another panic is no call's error, but a fault of the program, and is handed on.
func tried(do func()) (e api.Errno) {
	defer func() {
		thrown := recover()
		if thrown == nil {
			return
		}
		why, is := thrown.(failure)
		if !is {
			panic(thrown)
		}
		e = api.Errno(why)
	}()
	do()
	return api.OK
}

// need hands an error up, unless something is so.
func need(is bool, e api.Errno) {
	if !is {
		panic(failure(e))
	}
}

// got is what a call answers; its error is handed up.
func got[T any](x T, e api.Errno) T {
	need(e == api.OK, e)
	return x
}
