package house

import (
	"iter"
	"slices"

	"patrol/api"
)

// tooLong is the least Hi - Lo of a span whose openings are not told.
const tooLong = 7 * api.DaySecs

// split returns the first second of the day of a time, and the second of this day.
func split(t int) (day, second int) {
	second = t % api.DaySecs
	return t - second, second
}

// nextHour returns the least time from t on whose second of the day is in one of some hours; more than api.MaxTime if there is none.
func nextHour(hours []api.Span, t int) int {
	if len(hours) == 0 {
		return api.Never
	}
	day, second := split(t)
	for _, x := range hours {
		if second <= x.Hi {
			return day + max(second, x.Lo)
		}
	}
	return day + api.DaySecs + hours[0].Lo
}

// lastHour returns the greatest time up to t whose second of the day is in one of some hours; less than 0 if there is none.
func lastHour(hours []api.Span, t int) int {
	if len(hours) == 0 {
		return -1
	}
	day, second := split(t)
	for _, x := range slices.Backward(hours) {
		if second >= x.Lo {
			return day + min(second, x.Hi)
		}
	}
	return day - api.DaySecs + hours[len(hours)-1].Hi
}

// around returns the closure that has a time; false if there is none.
func around(shut []api.Span, t int) (api.Span, bool) {
	for _, x := range shut {
		if has(x, t) {
			return x, true
		}
	}
	return api.Span{}, false
}

// nextOpen returns the least time from t on at which a door is open, or api.Never.
func nextOpen(d api.Door, t int) int {
	for t <= api.MaxTime {
		later := nextHour(d.Hours, t)
		if x, is := around(d.Shut, later); is {
			later = x.Hi + 1
		}
		if later == t {
			return t
		}
		t = later
	}
	return api.Never
}

// lastOpen returns the greatest time up to t at which a door is open, or -1.
func lastOpen(d api.Door, t int) int {
	for t >= 0 {
		sooner := lastHour(d.Hours, t)
		if x, is := around(d.Shut, sooner); is {
			sooner = x.Lo - 1
		}
		if sooner == t {
			return t
		}
		t = sooner
	}
	return -1
}

// openUntil returns a time up to which a door that is open at t stays so: the end of the day's hours, or that before a closure.
func openUntil(d api.Door, t int) int {
	until := t
	day, second := split(t)
	for _, x := range d.Hours {
		if has(x, second) {
			until = day + x.Hi
		}
	}
	for _, x := range d.Shut {
		if x.Lo > t {
			until = min(until, x.Lo-1)
		}
	}
	return until
}

// openTimes yields the times in s at which a door is open as spans, in increasing order. A span that goes on beyond a midnight is yielded in parts.
func openTimes(d api.Door, s api.Span) iter.Seq[api.Span] {
	return func(yield func(api.Span) bool) {
		for t := nextOpen(d, s.Lo); t <= s.Hi; {
			x := meet(s, api.Span{Lo: t, Hi: openUntil(d, t)})
			if !yield(x) {
				return
			}
			t = nextOpen(d, x.Hi+1)
		}
	}
}

// IsOpen reports whether a door is open at a time.
func IsOpen(h api.House, door, t int) (bool, api.Errno) {
	next, e := NextOpen(h, door, t)
	return e == api.OK && next == t, e
}

// NextOpen returns the least time from t on at which a door is open, or api.Never.
func NextOpen(h api.House, door, t int) (int, api.Errno) {
	if e := check(h, isDoor(h, door) && isTime(t)); e != api.OK {
		return 0, e
	}
	return nextOpen(h.Doors[door], t), api.OK
}

// LastOpen returns the greatest time up to t at which a door is open, or -1.
func LastOpen(h api.House, door, t int) (int, api.Errno) {
	if e := check(h, isDoor(h, door) && isTime(t)); e != api.OK {
		return 0, e
	}
	return lastOpen(h.Doors[door], t), api.OK
}

// Openings returns the spans of the times in s at which a door is open.
func Openings(h api.House, door int, s api.Span) ([]api.Span, api.Errno) {
	if e := check(h, isDoor(h, door) && areTimes(s)); e != api.OK {
		return nil, e
	}
	if s.Hi-s.Lo >= tooLong {
		return nil, api.ErrLimit
	}
	var l []api.Span
	for x := range openTimes(h.Doors[door], s) {
		if n := len(l); n > 0 && l[n-1].Hi+1 == x.Lo {
			l[n-1].Hi = x.Hi
		} else {
			l = append(l, x)
		}
	}
	return l, api.OK
}

// join returns the orderly list whose spans have the times of an orderly list and those of s.
func join(l []api.Span, s api.Span) []api.Span {
	var before, behind []api.Span
	for _, x := range l {
		switch {
		case x.Hi+1 < s.Lo:
			before = append(before, x)
		case s.Hi+1 < x.Lo:
			behind = append(behind, x)
		default:
			s = api.Span{Lo: min(s.Lo, x.Lo), Hi: max(s.Hi, x.Hi)}
		}
	}
	return slices.Concat(before, []api.Span{s}, behind)
}

// copyOf returns a house with memory of its own.
func copyOf(h api.House) api.House {
	h.Rooms, h.Doors, h.Ways = slices.Clone(h.Rooms), slices.Clone(h.Doors), slices.Clone(h.Ways)
	for k, x := range h.Doors {
		h.Doors[k] = api.Door{Hours: slices.Clone(x.Hours), Shut: slices.Clone(x.Shut)}
	}
	return h
}

// Shut returns the house in which a door is shut at the times of s, too.
func Shut(h api.House, door int, s api.Span) (api.House, api.Errno) {
	if e := check(h, isDoor(h, door) && areTimes(s)); e != api.OK {
		return api.House{}, e
	}
	shut := join(h.Doors[door].Shut, s)
	if len(shut) > api.MaxSpans {
		return api.House{}, api.ErrLimit
	}
	h = copyOf(h)
	h.Doors[door].Shut = shut
	return h, api.OK
}
