package parse

import "orrery/api"

// stop is why something can't go on, and where.
type stop struct {
	err api.Errno
	at  int
}

// tried is what the work answers, or why it was given up by a panic with a stop. Any other panic is a fault of the program, and goes on.
func tried[T any](work func() T) (answer T, err api.Errno, at int) {
	defer func() {
		given := recover()
		if given == nil {
			return
		}
		why, ok := given.(stop)
		if !ok {
			panic(given)
		}
		err, at = why.err, why.at
	}()
	return work(), api.OK, 0
}
