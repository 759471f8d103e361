package check

import "orrery/api"

// why says why a tree can't stand where it stands: OK, if it can.
type why func(t api.Tree) api.Errno

// first hands trees to a closure, in order: the first error, and the place of the tree that can't stand.
func first(list []api.Tree, says why) (api.Errno, int) {
	for at, t := range list {
		if err := says(t); err != api.OK {
			return err, at
		}
	}
	return api.OK, 0
}

// all says what the first of these says that has anything to say.
func all(say ...why) why {
	return func(t api.Tree) api.Errno {
		for _, says := range say {
			if err := says(t); err != api.OK {
				return err
			}
		}
		return api.OK
	}
}

// within is what a closure says of the first tree of a list that can't stand.
func within(list []api.Tree, says why) api.Errno {
	err, _ := first(list, says)
	return err
}
