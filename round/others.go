package round

import (
	"iter"
	"slices"

	"patrol/api"
	"patrol/dial"
)

// copyOfOrder returns an order with memory of its own.
func copyOfOrder(o api.Order) api.Order {
	o.Names, o.Kids = slices.Clone(o.Names), slices.Clone(o.Kids)
	for k, kid := range o.Kids {
		o.Kids[k] = copyOfOrder(kid)
	}
	return o
}

// copyOf returns a valid case with memory of its own.
func copyOf(c api.Case) api.Case {
	h := &c.House
	h.Rooms, h.Doors, h.Ways = slices.Clone(h.Rooms), slices.Clone(h.Doors), slices.Clone(h.Ways)
	for k, x := range h.Doors {
		h.Doors[k] = api.Door{Hours: slices.Clone(x.Hours), Shut: slices.Clone(x.Shut)}
	}
	c.Session.Stops = slices.Clone(c.Session.Stops)
	c.Keys, c.Stations, c.Marks = slices.Clone(c.Keys), slices.Clone(c.Stations), slices.Clone(c.Marks)
	c.Order = copyOfOrder(c.Order)
	return c
}

// Sharper returns a case in which more is known of a mark.
func Sharper(c api.Case, mark int, m api.Mark) (api.Case, api.Errno) {
	if e := check(c, isIndex(mark, len(c.Marks))); e != api.OK {
		return api.Case{}, e
	}
	sharp, e := dial.Sharpen(c.Marks[mark], m)
	if e != api.OK {
		return api.Case{}, e
	}
	if _, is := positions(c, sharp); !is {
		return api.Case{}, api.ErrRange
	}
	c = copyOf(c)
	c.Marks[mark] = sharp
	return c, api.OK
}

// without returns a case without the marks with some indices, which shares its other lists.
func without(c api.Case, marks []int) api.Case {
	var left []api.Mark
	for k, m := range c.Marks {
		if !slices.Contains(marks, k) {
			left = append(left, m)
		}
	}
	c.Marks = left
	return c
}

// Without returns a case without some marks.
func Without(c api.Case, marks []int) (api.Case, api.Errno) {
	if e := Check(c); e != api.OK {
		return api.Case{}, e
	}
	return copyOf(without(c, marks)), api.OK
}

// sets yields the sets of at most some number of the integers from 0 to n - 1, by their number, and then as lists.
func sets(n, most int) iter.Seq[[]int] {
	return func(yield func([]int) bool) {
		for size := range most + 1 {
			if !choose(nil, 0, n, size, yield) {
				return
			}
		}
	}
}

// choose yields the lists that go on behind others with some more integers from a number to n - 1, in increasing order; it reports whether to go on.
func choose(begun []int, from, n, more int, yield func([]int) bool) bool {
	if more == 0 {
		return yield(begun)
	}
	for k := from; k < n; k++ {
		if !choose(slices.Concat(begun, []int{k}), k+1, n, more-1, yield) {
			return false
		}
	}
	return true
}

// Repair returns the fewest marks without which some reading fulfils the order.
func Repair(c api.Case, most int) ([]int, api.Errno) {
	if e := Measure(c); e != api.OK {
		return nil, e
	}
	if most < 0 || most > api.MaxDrop {
		return nil, api.ErrArg
	}
	for marks := range sets(len(c.Marks), most) {
		if _, e := Some(without(c, marks)); e == api.OK {
			return marks, api.OK
		}
	}
	return nil, api.ErrNone
}
