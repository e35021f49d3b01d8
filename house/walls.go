package house

import (
	"slices"

	"patrol/api"
)

// checkEnds returns the error of Check for a house, or else ErrArg unless a and b are rooms, and ta and tb are times.
func checkEnds(h api.House, a, ta, b, tb int) api.Errno {
	return check(h, isRoom(h, a) && isTime(ta) && isRoom(h, b) && isTime(tb))
}

// CheckLabels returns OK if a list is what Earliest returns for a room and a time.
func CheckLabels(h api.House, from, t int, l []int) api.Errno {
	times, e := Earliest(h, from, t)
	if e != api.OK {
		return e
	}
	if !slices.Equal(l, times) {
		return api.ErrProof
	}
	return api.OK
}

// Wall returns a wall for the room a at ta and the room b at tb; ErrNone if there is none.
func Wall(h api.House, a, ta, b, tb int) ([]int, api.Errno) {
	if e := checkEnds(h, a, ta, b, tb); e != api.OK {
		return nil, e
	}
	// The earliest arrivals keep all that a wall has to keep but what is said of b; and no wall has a greater element for a room.
	times := arrivals(h, a, ta)
	if times[b] <= tb {
		return nil, api.ErrNone
	}
	return times, api.OK
}

// holds reports whether no passage leads from the time that a list has for a room to one before that of the next room.
func holds(h api.House, l []int) bool {
	enter := entering(h)
	for x := range passages(h) {
		if isTime(l[x.from]) && enter(x, l[x.from]) < l[x.to] {
			return false
		}
	}
	return true
}

// CheckWall returns OK if a list is a wall for the room a at ta and the room b at tb.
func CheckWall(h api.House, a, ta, b, tb int, l []int) api.Errno {
	if e := checkEnds(h, a, ta, b, tb); e != api.OK {
		return e
	}
	if len(l) != len(h.Rooms) {
		return api.ErrProof
	}
	for _, at := range l {
		if at < 0 || at > api.Never {
			return api.ErrProof
		}
	}
	if l[a] > ta || l[b] <= tb || !holds(h, l) {
		return api.ErrProof
	}
	return api.OK
}
