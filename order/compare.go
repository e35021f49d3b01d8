package order

import (
	"slices"

	"patrol/api"
)

// pair is a state of each of two automata, or none.
type pair struct{ a, b int }

// reached tells how a pair was reached first: from which one of those that were reached before it, and by which name.
type reached struct {
	states pair
	from   int
	name   string
}

// isFinal reports whether a state of an automaton is a final one.
func isFinal(a api.Automaton, s int) bool { return s != none && a.Final[s] }

// search returns the least list of names behind which two automata are in a pair of states that is sought; false if there is none. Pairs are reached in the order of the least lists that lead to them.
func search(a, b api.Automaton, sought func(a, b bool) bool) ([]string, bool) {
	names := slices.Sorted(slices.Values(slices.Concat(a.Names, b.Names)))
	names = slices.Compact(names)
	known, l := map[pair]bool{{}: true}, []reached{{}}
	for k := 0; k < len(l); k++ {
		x := l[k].states
		if sought(isFinal(a, x.a), isFinal(b, x.b)) {
			return listTo(l, k), true
		}
		for _, name := range names {
			to := pair{follow(a, x.a, name), follow(b, x.b, name)}
			if !known[to] {
				known[to] = true
				l = append(l, reached{to, k, name})
			}
		}
	}
	return nil, false
}

// listTo returns the list of names by which the pair with an index was reached.
func listTo(l []reached, k int) []string {
	var names []string
	for ; k > 0; k = l[k].from {
		names = append(names, l[k].name)
	}
	slices.Reverse(names)
	return names
}

// compare returns the least list that two orders accept, or do not, as it is sought; true if there is none.
func compare(a, b api.Order, sought func(a, b bool) bool) ([]string, bool, api.Errno) {
	for _, o := range []api.Order{a, b} {
		if e := Check(o); e != api.OK {
			return nil, false, e
		}
	}
	x, e := Automaton(a)
	if e != api.OK {
		return nil, false, e
	}
	y, e := Automaton(b)
	if e != api.OK {
		return nil, false, e
	}
	l, is := search(x, y, sought)
	return l, !is, api.OK
}

// Same reports whether two orders accept the same lists; if not, it returns the least one that just one of them accepts.
func Same(a, b api.Order) ([]string, bool, api.Errno) {
	return compare(a, b, func(a, b bool) bool { return a != b })
}

// Implies reports whether b accepts each list that a accepts; if not, it returns the least one that b does not accept.
func Implies(a, b api.Order) ([]string, bool, api.Errno) {
	return compare(a, b, func(a, b bool) bool { return a && !b })
}
