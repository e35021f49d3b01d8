package house

import (
	"iter"

	"patrol/api"
)

// passage is a way in one direction: the index of the way, whether it is gone back, the rooms from and to which it leads, the seconds that it takes, and its door.
type passage struct {
	way                  int
	back                 bool
	from, to, secs, door int
}

// direct returns a way in one direction; false if it does not lead there.
func direct(h api.House, way int, back bool) (passage, bool) {
	x := h.Ways[way]
	if back {
		return passage{way, back, x.B, x.A, x.Back, x.Door}, x.Back > 0
	}
	return passage{way, back, x.A, x.B, x.Secs, x.Door}, true
}

// passages yields all ways of a house, in each direction in which they lead.
func passages(h api.House) iter.Seq[passage] {
	return func(yield func(passage) bool) {
		for way := range h.Ways {
			for _, back := range []bool{false, true} {
				if x, leads := direct(h, way, back); leads && !yield(x) {
					return
				}
			}
		}
	}
}

// course tells what a passage makes of a time.
type course func(x passage, t int) int

// entering returns the course that leads from a time to the least time of an arrival for those who begin to go then or later; to api.Never if there is none.
func entering(h api.House) course {
	return func(x passage, t int) int {
		if x.door >= 0 {
			t = nextOpen(h.Doors[x.door], t)
		}
		return min(t+x.secs, api.Never)
	}
}

// departing returns the course that leads from a time to the greatest time at which one can begin to go who arrives then or earlier; to -1 if there is none.
func departing(h api.House) course {
	return func(x passage, t int) int {
		t -= x.secs
		if x.door >= 0 {
			t = lastOpen(h.Doors[x.door], t)
		}
		return max(t, -1)
	}
}

// follow returns what a course makes of a time on a way in one direction; ErrNone if the way does not lead there.
func follow(h api.House, way int, back bool, t int, c course) (int, api.Errno) {
	if e := check(h, isWay(h, way) && isTime(t)); e != api.OK {
		return 0, e
	}
	x, leads := direct(h, way, back)
	if !leads {
		return 0, api.ErrNone
	}
	return c(x, t), api.OK
}

// Enter returns the least time of an arrival for those who begin to go a way at t or later, or api.Never.
func Enter(h api.House, way int, back bool, t int) (int, api.Errno) {
	return follow(h, way, back, t, entering(h))
}

// Depart returns the greatest time at which one can begin to go a way who arrives at t or earlier, or -1.
func Depart(h api.House, way int, back bool, t int) (int, api.Errno) {
	return follow(h, way, back, t, departing(h))
}

// step returns where, and when, one is after a step who was in a room since a time.
func step(h api.House, room, since int, s api.Step) (int, int, api.Errno) {
	if !isWay(h, s.Way) || !isTime(s.At) {
		return 0, 0, api.ErrArg
	}
	x, leads := direct(h, s.Way, s.Back)
	switch {
	case !leads:
		return 0, 0, api.ErrArg
	case x.from != room:
		return 0, 0, api.ErrState
	case s.At < since:
		return 0, 0, api.ErrRange
	case x.door >= 0 && nextOpen(h.Doors[x.door], s.At) != s.At:
		return 0, 0, api.ErrClash
	case !isTime(s.At + x.secs):
		return 0, 0, api.ErrRange
	}
	return x.to, s.At + x.secs, api.OK
}

// Walk returns the room and the time of the end of a walk.
func Walk(h api.House, from, t int, l []api.Step) (int, int, api.Errno) {
	if e := check(h, isRoom(h, from) && isTime(t)); e != api.OK {
		return 0, 0, e
	}
	if len(l) > api.MaxSteps {
		return 0, 0, api.ErrLimit
	}
	for _, s := range l {
		var e api.Errno
		from, t, e = step(h, from, t, s)
		if e != api.OK {
			return 0, 0, e
		}
	}
	return from, t, api.OK
}
