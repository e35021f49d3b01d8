package dial

import (
	"cmp"
	"iter"
	"slices"

	"patrol/api"
)

// piece is a part of the circle that does not lead over the angle 0: the angles from lo to hi.
type piece struct{ lo, hi int }

// cut is a place at which a piece of the list with an index begins (by is 1), or behind whose end it lies (by is -1).
type cut struct{ at, list, by int }

// pieces yields the pieces of the arcs of a list; an arc that leads over the angle 0 has two.
func pieces(l []api.Arc) iter.Seq[piece] {
	return func(yield func(piece) bool) {
		for _, x := range l {
			end := x.From + x.Len
			if !yield(piece{x.From, min(end, api.Ring-1)}) {
				return
			}
			if end >= api.Ring && !yield(piece{0, end - api.Ring}) {
				return
			}
		}
	}
}

// cuts returns the cuts of two lists, in the order of their places.
func cuts(lists [2][]api.Arc) []cut {
	var all []cut
	for k, l := range lists {
		for p := range pieces(l) {
			all = append(all, cut{p.lo, k, 1}, cut{p.hi + 1, k, -1})
		}
	}
	slices.SortFunc(all, func(a, b cut) int { return cmp.Compare(a.at, b.at) })
	return all
}

// keptPieces yields, in order, pieces of the angles for which keep, told which of two lists has them, is true. It never asks for those that neither list has.
func keptPieces(lists [2][]api.Arc, keep func(in [2]bool) bool) iter.Seq[piece] {
	all := cuts(lists)
	return func(yield func(piece) bool) {
		var open [2]int
		for k, c := range all {
			open[c.list] += c.by
			if k+1 == len(all) || all[k+1].at == c.at {
				continue
			}
			in := [2]bool{open[0] > 0, open[1] > 0}
			if (in[0] || in[1]) && keep(in) && !yield(piece{c.at, all[k+1].at - 1}) {
				return
			}
		}
	}
}

// join returns the normal list of the angles of pieces that come in order and have no common angles.
func join(ps iter.Seq[piece]) []api.Arc {
	var l []api.Arc
	for p := range ps {
		if n := len(l); n > 0 && l[n-1].From+l[n-1].Len+1 == p.lo {
			l[n-1].Len = p.hi - l[n-1].From
		} else {
			l = append(l, api.Arc{From: p.lo, Len: p.hi - p.lo})
		}
	}
	n := len(l)
	if n > 1 && l[0].From == 0 && l[n-1].From+l[n-1].Len == api.Ring-1 {
		// The last arc leads over the angle 0 into the first one.
		l[n-1].Len += 1 + l[0].Len
		l = l[1:]
	}
	return l
}

// combine returns the normal list of the angles for which keep, told which of two lists has them, is true; or the first error of the lists.
func combine(lists [2][]api.Arc, keep func(in [2]bool) bool) ([]api.Arc, api.Errno) {
	for _, l := range lists {
		if e := checkArcs(l); e != api.OK {
			return nil, e
		}
	}
	return join(keptPieces(lists, keep)), api.OK
}

// Normal returns the normal list of the angles of a list.
func Normal(l []api.Arc) ([]api.Arc, api.Errno) { return Union(l, nil) }

// Union returns the normal list of the angles that a or b has.
func Union(a, b []api.Arc) ([]api.Arc, api.Errno) {
	return combine([2][]api.Arc{a, b}, func(in [2]bool) bool { return in[0] || in[1] })
}

// Meet returns the normal list of the angles that a and b have.
func Meet(a, b []api.Arc) ([]api.Arc, api.Errno) {
	return combine([2][]api.Arc{a, b}, func(in [2]bool) bool { return in[0] && in[1] })
}

// Minus returns the normal list of the angles that a has, and b has not.
func Minus(a, b []api.Arc) ([]api.Arc, api.Errno) {
	return combine([2][]api.Arc{a, b}, func(in [2]bool) bool { return in[0] && !in[1] })
}

// Grow returns the normal list of the angles that are near those of a list.
func Grow(l []api.Arc, by int) ([]api.Arc, api.Errno) {
	if e := checkArcs(l); e != api.OK {
		return nil, e
	}
	if by < 0 || by > api.Ring {
		return nil, api.ErrArg
	}
	var wide []api.Arc
	for _, x := range l {
		wide = append(wide, widen(x, by))
	}
	return Normal(wide)
}

// Size returns how many angles a list has.
func Size(l []api.Arc) (int, api.Errno) {
	normal, e := Normal(l)
	n := 0
	for _, x := range normal {
		n += x.Len + 1
	}
	return n, e
}

// Covers reports whether a has each angle that b has.
func Covers(a, b []api.Arc) (bool, api.Errno) {
	// Not by Minus(b, a), which would look for the errors of b first.
	lacking, e := combine([2][]api.Arc{a, b}, func(in [2]bool) bool { return in[1] && !in[0] })
	return e == api.OK && len(lacking) == 0, e
}
