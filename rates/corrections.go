package rates

import (
	"maps"
	"slices"

	"patrol/api"
)

// groups are the postings of a list by their Night and No, in their order.
type groups map[[2]int][]api.Posting

// groupsOf returns the groups of a list of postings.
func groupsOf(l []api.Posting) groups {
	g := groups{}
	for _, x := range l {
		name := [2]int{x.Night, x.No}
		g[name] = append(g[name], x)
	}
	return g
}

// isSame reports whether two groups are the same.
func isSame(a, b []api.Posting) bool {
	if len(a) != len(b) {
		return false
	}
	for k, x := range a {
		if x != b[k] {
			return false
		}
	}
	return true
}

// differing returns the names of the groups that are not the same, in increasing order.
func differing(a, b groups) [][2]int {
	all := maps.Clone(a)
	maps.Copy(all, b)
	var names [][2]int
	for name := range maps.Keys(all) {
		if !isSame(a[name], b[name]) {
			names = append(names, name)
		}
	}
	slices.SortFunc(names, func(x, y [2]int) int { return slices.Compare(x[:], y[:]) })
	return names
}

// backwards returns postings that give back what some postings gave.
func backwards(l []api.Posting) []api.Posting {
	back := slices.Clone(l)
	for k, x := range back {
		back[k].From, back[k].To = x.To, x.From
	}
	return back
}

// checkBoth returns the first error of two lists of postings.
func checkBoth(old, now []api.Posting) api.Errno {
	if e, _ := CheckPostings(old); e != api.OK {
		return e
	}
	e, _ := CheckPostings(now)
	return e
}

// Correct returns the postings that turn one list into another one.
func Correct(old, now []api.Posting) ([]api.Posting, api.Errno) {
	if e := checkBoth(old, now); e != api.OK {
		return nil, e
	}
	was, is := groupsOf(old), groupsOf(now)
	var l []api.Posting
	for _, name := range differing(was, is) {
		l = append(l, backwards(was[name])...)
		l = append(l, is[name]...)
	}
	if len(l) > api.MaxPostings {
		return nil, api.ErrLimit
	}
	return l, api.OK
}

// Moved returns the accounts whose balances differ, and by how much.
func Moved(old, now []api.Posting) ([]api.Change, api.Errno) {
	if e := checkBoth(old, now); e != api.OK {
		return nil, e
	}
	moved := balancesOf(slices.Concat(backwards(old), now))
	return changesOf(moved, func(pence int) bool { return pence != 0 }), api.OK
}
