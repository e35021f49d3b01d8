package order

import (
	"cmp"
	"slices"

	"patrol/api"
)

// Names returns the different names of an order.
func Names(o api.Order) ([]string, api.Errno) {
	if e := Check(o); e != api.OK {
		return nil, e
	}
	return namesOf(o), api.OK
}

// lengths returns the least and the greatest number of names in a list of the language of a node.
func lengths(o api.Order) (int, int) {
	lo, hi := len(o.Names), len(o.Names)
	switch o.Kind {
	case api.OrThen, api.OrEither:
		lo0, hi0 := lengths(o.Kids[0])
		lo1, hi1 := lengths(o.Kids[1])
		if o.Kind == api.OrThen {
			return lo0 + lo1, hi0 + hi1
		}
		return min(lo0, lo1), max(hi0, hi1)
	case api.OrWithin:
		return lengths(o.Kids[0])
	case api.OrTimes:
		lo, hi = lengths(o.Kids[0])
		return o.Lo * lo, o.Hi * hi
	}
	return lo, hi
}

// Lengths returns the least and the greatest number of names of a list of the language.
func Lengths(o api.Order) (int, int, api.Errno) {
	if e := Check(o); e != api.OK {
		return 0, 0, e
	}
	lo, hi := lengths(o)
	return lo, hi, api.OK
}

// mirror returns a node with the kids of each OrThen exchanged.
func mirror(o api.Order) api.Order {
	o.Names = slices.Clone(o.Names)
	var kids []api.Order
	for _, kid := range o.Kids {
		kids = append(kids, mirror(kid))
	}
	if o.Kind == api.OrThen {
		slices.Reverse(kids)
	}
	o.Kids = kids
	return o
}

// Mirror returns the order of all lists backwards.
func Mirror(o api.Order) (api.Order, api.Errno) {
	if e := Check(o); e != api.OK {
		return api.Order{}, e
	}
	return mirror(o), api.OK
}

// compareLists compares two lists of names, by their lengths first.
func compareLists(a, b []string) int {
	return cmp.Or(cmp.Compare(len(a), len(b)), slices.Compare(a, b))
}

// least returns the least list of the language of a node. With the fewest names each part of it is as short as it can be; so the parts can be chosen one by one.
func least(o api.Order) []string {
	switch o.Kind {
	case api.OrThen:
		return slices.Concat(least(o.Kids[0]), least(o.Kids[1]))
	case api.OrEither:
		a, b := least(o.Kids[0]), least(o.Kids[1])
		if compareLists(a, b) <= 0 {
			return a
		}
		return b
	case api.OrWithin:
		return least(o.Kids[0])
	case api.OrTimes:
		return slices.Repeat(least(o.Kids[0]), o.Lo)
	}
	return slices.Sorted(slices.Values(o.Names))
}

// Least returns the least list of the language.
func Least(o api.Order) ([]string, api.Errno) {
	if e := Check(o); e != api.OK {
		return nil, e
	}
	return least(o), api.OK
}

// needs reports whether a name stands in each list of the language of a node.
func needs(o api.Order, name string) bool {
	switch o.Kind {
	case api.OrThen:
		return needs(o.Kids[0], name) || needs(o.Kids[1], name)
	case api.OrEither:
		return needs(o.Kids[0], name) && needs(o.Kids[1], name)
	case api.OrWithin, api.OrTimes:
		return needs(o.Kids[0], name)
	}
	return slices.Contains(o.Names, name)
}

// Needed returns the names that stand in each list of the language.
func Needed(o api.Order) ([]string, api.Errno) {
	if e := Check(o); e != api.OK {
		return nil, e
	}
	return slices.DeleteFunc(namesOf(o), func(name string) bool { return !needs(o, name) }), api.OK
}
