package dial

import "patrol/api"

// examine returns the error of the first element of a list for which check returns one, and its index; ErrLimit and -1 if there are more than most elements; or OK and -1.
func examine[T any](l []T, most int, check func(k int, x T) api.Errno) (api.Errno, int) {
	if len(l) > most {
		return api.ErrLimit, -1
	}
	for k, x := range l {
		if e := check(k, x); e != api.OK {
			return e, k
		}
	}
	return api.OK, -1
}

// checkArcs returns ErrLimit or ErrArg if a list of arcs is not acceptable.
func checkArcs(l []api.Arc) api.Errno {
	e, _ := examine(l, api.MaxArcs, func(_ int, x api.Arc) api.Errno {
		if !ValidArc(x) {
			return api.ErrArg
		}
		return api.OK
	})
	return e
}

// checkMarks returns the first error of the marks of a dial.
func checkMarks(ms []api.Mark) api.Errno {
	e, _ := examine(ms, api.MaxMarks, func(_ int, m api.Mark) api.Errno { return CheckMark(m) })
	return e
}

// checkPlace returns the error of a key at its place in a bunch.
func checkPlace(l []api.Key, k int) api.Errno {
	if e := CheckKey(l[k]); e != api.OK {
		return e
	}
	if k > 0 && l[k].ID <= l[k-1].ID {
		return api.ErrTwice
	}
	return api.OK
}

// isBunch reports whether a list of keys is a bunch.
func isBunch(l []api.Key) bool {
	e, _ := examine(l, api.MaxBunch, func(k int, _ api.Key) api.Errno { return checkPlace(l, k) })
	return e == api.OK
}
