// Package dial describes the marks on the paper dial of a watchman's clock, and the keys that can have made them; see shared/doc/01-dial.md.
package dial

import "patrol/api"

// circle is the whole circle; From has to be 0, so that each set of angles has one normal list only.
var circle = api.Arc{From: 0, Len: api.Ring - 1}

// Angle returns the angle of an integer.
func Angle(a int) int {
	r := a % api.Ring
	if r < 0 {
		r += api.Ring
	}
	return r
}

// Ahead returns how many units lead clockwise from the angle of a to the angle of b.
func Ahead(a, b int) int {
	// The angles are subtracted, because b - a can overflow.
	return Angle(Angle(b) - Angle(a))
}

// Apart returns how many units two integers are apart.
func Apart(a, b int) int { return min(Ahead(a, b), Ahead(b, a)) }

// ValidArc reports whether an arc is valid.
func ValidArc(x api.Arc) bool {
	return x == circle || x.From >= 0 && x.From < api.Ring && x.Len >= 0 && x.Len < circle.Len
}

// Has reports whether a valid arc has the angle of a.
func Has(x api.Arc, a int) bool { return ValidArc(x) && Ahead(x.From, a) <= x.Len }

// Turn returns an arc that is moved clockwise.
func Turn(x api.Arc, by int) (api.Arc, api.Errno) {
	if !ValidArc(x) {
		return api.Arc{}, api.ErrArg
	}
	if x == circle {
		return circle, api.OK
	}
	return api.Arc{From: Angle(x.From + Angle(by)), Len: x.Len}, api.OK
}

// widen returns the arc of all angles that are at most by, which is from 0 to api.Ring, apart from an angle of a valid arc.
func widen(x api.Arc, by int) api.Arc {
	long := x.Len + 2*by
	if long >= circle.Len {
		return circle
	}
	return api.Arc{From: Angle(x.From - by), Len: long}
}
