package house

import (
	"slices"

	"patrol/api"
)

// tree is what a search finds: for each room the least time of an arrival, or api.Never, and the index of the passage by which one arrives then (-1: none).
type tree struct{ times, by []int }

// search finds the earliest arrivals at a number of rooms for one who is in a room at t and goes along passages, by a course that makes every time a later one. Each room is left once, at its least time: who leaves it later arrives nowhere sooner.
func search(rooms, from, t int, l []passage, c course) tree {
	f := tree{slices.Repeat([]int{api.Never}, rooms), slices.Repeat([]int{-1}, rooms)}
	f.times[from] = t
	left := make([]bool, rooms)
leaving:
	for {
		here := -1
		for room, at := range f.times {
			if !left[room] && at <= api.MaxTime && (here < 0 || at < f.times[here]) {
				here = room
			}
		}
		if here < 0 {
			break leaving
		}
		left[here] = true
		for k, x := range l {
			if x.from != here {
				continue
			}
			if at := c(x, f.times[here]); at < f.times[x.to] {
				f.times[x.to], f.by[x.to] = at, k
			}
		}
	}
	return f
}

// earliest returns the earliest arrivals at all rooms, and the passages to which the indices of the tree refer.
func earliest(h api.House, from, t int) (tree, []passage) {
	l := slices.Collect(passages(h))
	return search(len(h.Rooms), from, t, l, entering(h)), l
}

// arrivals returns the earliest arrivals at all rooms.
func arrivals(h api.House, from, t int) []int {
	f, _ := earliest(h, from, t)
	return f.times
}

// mirror makes the last times the first ones; -1 and api.Never are each other's image.
func mirror(t int) int { return api.MaxTime - t }

// Earliest returns for each room the least time at which a walk from a room at t ends there, or api.Never.
func Earliest(h api.House, from, t int) ([]int, api.Errno) {
	if e := check(h, isRoom(h, from) && isTime(t)); e != api.OK {
		return nil, e
	}
	return arrivals(h, from, t), api.OK
}

// Latest returns for each room the greatest time such that one who is there then can be in a room at t, or -1.
func Latest(h api.House, to, t int) ([]int, api.Errno) {
	if e := check(h, isRoom(h, to) && isTime(t)); e != api.OK {
		return nil, e
	}
	// The search for the earliest times goes against the ways, and against time.
	l := slices.Collect(passages(h))
	for k, x := range l {
		l[k].from, l[k].to = x.to, x.from
	}
	depart := departing(h)
	f := search(len(h.Rooms), to, mirror(t), l, func(x passage, at int) int { return mirror(depart(x, mirror(at))) })
	for room, at := range f.times {
		f.times[room] = mirror(at)
	}
	return f.times, api.OK
}

// Route returns a walk with the earliest arrival at a room; ErrNone if there is none.
func Route(h api.House, from, t, to int) ([]api.Step, api.Errno) {
	if e := check(h, isRoom(h, from) && isTime(t) && isRoom(h, to)); e != api.OK {
		return nil, e
	}
	f, l := earliest(h, from, t)
	if f.times[to] == api.Never {
		return nil, api.ErrNone
	}
	var steps []api.Step
	for room := to; room != from; {
		x := l[f.by[room]]
		steps = append(steps, api.Step{Way: x.way, Back: x.back, At: f.times[room] - x.secs})
		room = x.from
	}
	slices.Reverse(steps)
	return steps, api.OK
}

// Can reports whether one who is in a at ta can be in b at tb.
func Can(h api.House, a, ta, b, tb int) (bool, api.Errno) {
	if e := checkEnds(h, a, ta, b, tb); e != api.OK {
		return false, e
	}
	return arrivals(h, a, ta)[b] <= tb, api.OK
}

// openHouse returns a house with the rooms and ways of another one, and without doors.
func openHouse(h api.House) api.House {
	ways := slices.Clone(h.Ways)
	for k := range ways {
		ways[k].Door = -1
	}
	return api.House{Rooms: h.Rooms, Ways: ways}
}

// distances returns for each room the seconds that lead there from a room if all doors are always open; -1 if no ways do.
func distances(h api.House, a int) []int {
	// No walk that enters each room once at most takes longer than there are times.
	secs := arrivals(openHouse(h), a, 0)
	for room, at := range secs {
		if at == api.Never {
			secs[room] = -1
		}
	}
	return secs
}

// Least returns the seconds from a to b if all doors are always open; ErrNone if no ways lead there.
func Least(h api.House, a, b int) (int, api.Errno) {
	if e := check(h, isRoom(h, a) && isRoom(h, b)); e != api.OK {
		return 0, e
	}
	secs := distances(h, a)[b]
	if secs < 0 {
		return 0, api.ErrNone
	}
	return secs, api.OK
}

// Distances returns for each two rooms what Least returns for them, or -1.
func Distances(h api.House) ([][]int, api.Errno) {
	if e := check(h, true); e != api.OK {
		return nil, e
	}
	var rows [][]int
	for a := range h.Rooms {
		rows = append(rows, distances(h, a))
	}
	return rows, api.OK
}

// areRooms reports whether all integers of a list are rooms of a house.
func areRooms(h api.House, l []int) bool {
	for _, k := range l {
		if !isRoom(h, k) {
			return false
		}
	}
	return true
}

// Tour returns the least time at which one who is in the first one of some rooms at t can have been in all of them, in their order; api.Never if there is none.
func Tour(h api.House, rooms []int, t int) (int, api.Errno) {
	if e := check(h, len(rooms) > 0); e != api.OK {
		return 0, e
	}
	if len(rooms) > api.MaxSteps {
		return 0, api.ErrLimit
	}
	if !areRooms(h, rooms) || !isTime(t) {
		return 0, api.ErrArg
	}
	for k, to := range rooms[1:] {
		t = arrivals(h, rooms[k], t)[to]
		if t == api.Never {
			break
		}
	}
	return t, api.OK
}

// Nearest returns which of some rooms can be reached first from a room at t, and when; ErrNone if none can.
func Nearest(h api.House, from, t int, rooms []int) (int, int, api.Errno) {
	if e := check(h, isRoom(h, from) && isTime(t) && areRooms(h, rooms)); e != api.OK {
		return 0, 0, e
	}
	times := arrivals(h, from, t)
	first, at := 0, api.Never
	for _, room := range rooms {
		if times[room] < at || times[room] == at && room < first {
			first, at = room, times[room]
		}
	}
	if at == api.Never {
		return 0, 0, api.ErrNone
	}
	return first, at, api.OK
}
