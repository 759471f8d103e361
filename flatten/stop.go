package flatten

import "orrery/api"

// stop is why something can't go on.
type stop struct{ err api.Errno }

// must is what a call answers, if it answers no error; else all that was tried is given up with that.
func must[T any](answer T, err api.Errno) T {
	if err != api.OK {
		panic(stop{err})
	}
	return answer
}

// mustHaveRoom gives up, if there are as many as may be.
func mustHaveRoom(there, most int) {
	if there >= most {
		panic(stop{api.ErrLong})
	}
}

// tried is what the work answers, or why it was given up by a panic with a stop. Any other panic is a fault of the program, and goes on.
func tried[T any](work func() T) (answer T, err api.Errno) {
	defer func() {
		given := recover()
		if given == nil {
			return
		}
		why, ok := given.(stop)
		if !ok {
			panic(given)
		}
		err = why.err
	}()
	return work(), api.OK
}
