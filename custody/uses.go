package custody

import (
	"cmp"
	"slices"

	"patrol/api"
)

// isRightUse reports whether a use is valid for a book, whatever its Who is.
func isRightUse(c api.Custody, u api.Use) bool {
	return slices.Contains(c.Keys, u.Key) && isTime(u.Time)
}

// checkUses returns the error of a book, or else the first one of some uses, of which a function tells which are right.
func checkUses(c api.Custody, l []api.Use, right func(u api.Use) bool) api.Errno {
	if e := Check(c); e != api.OK {
		return e
	}
	if len(l) > api.MaxUses {
		return api.ErrLimit
	}
	for _, u := range l {
		if !right(u) {
			return api.ErrArg
		}
	}
	return api.OK
}

// check returns the error of a book, or else the first one of some uses.
func check(c api.Custody, l []api.Use) api.Errno {
	return checkUses(c, l, func(u api.Use) bool { return isRightUse(c, u) && isPerson(c.People, u.Who) })
}

// handling returns the condition that a use puts on a history of its key.
func handling(c api.Custody, u api.Use) handled {
	k := slices.IndexFunc(c.People, func(p api.Person) bool { return p.ID == u.Who })
	return handled{duty(c.People[k], api.Span{Lo: u.Time, Hi: u.Time}), u.Who}
}

// usesOf returns the uses of a key, in the order of their times.
func usesOf(key int, l []api.Use) []api.Use {
	l = slices.DeleteFunc(slices.Clone(l), func(u api.Use) bool { return u.Key != key })
	slices.SortStableFunc(l, func(a, b api.Use) int { return cmp.Compare(a.Time, b.Time) })
	return l
}

// prove returns a history of each key that the uses of it fit; false if a key has none.
func prove(c api.Custody, l []api.Use) ([][]api.Move, bool) {
	var histories [][]api.Move
	for _, key := range c.Keys {
		var conditions []condition
		for _, u := range usesOf(key, l) {
			conditions = append(conditions, handling(c, u))
		}
		history, is := storyOf(c, key).find(conditions...)
		if !is {
			return nil, false
		}
		histories = append(histories, history)
	}
	return histories, true
}

// fits reports whether uses can all be true.
func fits(c api.Custody, l []api.Use) bool {
	_, is := prove(c, l)
	return is
}

// Fits reports whether uses can all be true.
func Fits(c api.Custody, l []api.Use) (bool, api.Errno) {
	if e := check(c, l); e != api.OK {
		return false, e
	}
	return fits(c, l), api.OK
}

// Prove returns histories that show that uses can all be true.
func Prove(c api.Custody, l []api.Use) ([][]api.Move, api.Errno) {
	if e := check(c, l); e != api.OK {
		return nil, e
	}
	p, is := prove(c, l)
	if !is {
		return nil, api.ErrNone
	}
	return p, api.OK
}

// proves reports whether a list of moves is a history of a key that the uses of it fit.
func proves(c api.Custody, key int, l []api.Use, history []api.Move) bool {
	y := storyOf(c, key)
	if !y.isHistory(history) {
		return false
	}
	for _, u := range usesOf(key, l) {
		x := handling(c, u)
		if len(x.times) == 0 || !y.keeps(y.at(history, u.Time), x) {
			return false
		}
	}
	return true
}

// CheckProof checks such histories.
func CheckProof(c api.Custody, l []api.Use, p [][]api.Move) api.Errno {
	if e := check(c, l); e != api.OK {
		return e
	}
	if slices.ContainsFunc(p, func(history []api.Move) bool { return len(history) > mostMoves }) {
		return api.ErrLimit
	}
	if len(p) != len(c.Keys) {
		return api.ErrProof
	}
	for k, key := range c.Keys {
		if !proves(c, key, l, p[k]) {
			return api.ErrProof
		}
	}
	return api.OK
}

// usesAt returns the uses with some indices.
func usesAt(l []api.Use, indices []int) []api.Use {
	var some []api.Use
	for _, k := range indices {
		some = append(some, l[k])
	}
	return some
}

// Core returns uses that do not fit together.
func Core(c api.Custody, l []api.Use) ([]int, api.Errno) {
	if e := check(c, l); e != api.OK {
		return nil, e
	}
	if fits(c, l) {
		return nil, api.ErrNone
	}
	var left []int
	for k := range l {
		left = append(left, k)
	}
	for k := len(l) - 1; k >= 0; k-- {
		// What lies behind k was gone through, so that k is still at its index.
		fewer := slices.Concat(left[:k], left[k+1:])
		if !fits(c, usesAt(l, fewer)) {
			left = fewer
		}
	}
	return left, api.OK
}

// Men returns who can have made all uses.
func Men(c api.Custody, l []api.Use) ([]int, api.Errno) {
	if e := checkUses(c, l, func(u api.Use) bool { return isRightUse(c, u) }); e != api.OK {
		return nil, e
	}
	var ids []int
	for _, p := range c.People {
		theirs := slices.Clone(l)
		for k := range theirs {
			theirs[k].Who = p.ID
		}
		if fits(c, theirs) {
			ids = append(ids, p.ID)
		}
	}
	return ids, api.OK
}
