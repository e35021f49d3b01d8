package house_test

import (
	"slices"
	"testing"

	"patrol/api"
	"patrol/house"
)

const (
	maxInt = 1<<63 - 1
	minInt = -1 << 63
)

// chance is a generator of numbers that are the same in each run.
type chance uint64

// n returns a number from 0 to limit - 1.
func (c *chance) n(limit int) int {
	*c = *c*6364136223846793005 + 1442695040888963407
	return int(uint64(*c)>>33) % limit
}

// from returns a number from lo to hi.
func (c *chance) from(lo, hi int) int { return lo + c.n(hi-lo+1) }

func (c *chance) pick(l ...int) int { return l[c.n(len(l))] }

func span(lo, hi int) api.Span { return api.Span{Lo: lo, Hi: hi} }

func spans(l ...api.Span) []api.Span { return l }

// spans returns an orderly list of at most n spans from lo to hi.
func (c *chance) spans(n, lo, hi int) []api.Span {
	var ends []int
	for range 2 * n {
		ends = append(ends, c.pick(lo, hi, c.from(lo, hi), c.from(lo, hi), c.from(lo, hi)))
	}
	slices.Sort(ends)
	var l []api.Span
	for k := range n {
		x := span(ends[2*k], ends[2*k+1])
		if len(l) > 0 && c.n(4) == 0 {
			x.Lo = l[len(l)-1].Hi + 2 // as near as can be
		}
		if x.Lo <= x.Hi && (len(l) == 0 || x.Lo > l[len(l)-1].Hi+1) {
			l = append(l, x)
		}
	}
	return l
}

// door returns a door that opens and closes in some seconds from the time t on.
func (c *chance) door(t, secs int) api.Door {
	second := t % api.DaySecs
	d := api.Door{
		Hours: c.spans(c.n(api.MaxSpans+1), second, min(second+secs, api.DaySecs-1)),
		Shut:  c.spans(c.n(api.MaxSpans+1), t, min(t+secs, api.MaxTime)),
	}
	if c.n(4) == 0 {
		d.Hours = spans(span(0, api.DaySecs-1))
	}
	return d
}

// house returns a valid house whose doors open and close in some seconds from the time t on.
func (c *chance) house(rooms, ways, t, secs int) api.House {
	var h api.House
	for k := range c.from(2, rooms) {
		h.Rooms = append(h.Rooms, api.Room{Name: string(rune('a' + (k*7)%26)), Floor: c.from(-api.MaxFloor, api.MaxFloor)})
	}
	for range c.n(5) {
		h.Doors = append(h.Doors, c.door(t, secs))
	}
	for range c.n(ways + 1) {
		x := api.Way{A: c.n(len(h.Rooms)), Secs: c.pick(1, c.from(1, 50), c.from(1, secs)), Back: c.pick(0, 1, c.from(1, secs)), Door: c.n(len(h.Doors)+1) - 1}
		x.B = (x.A + c.from(1, len(h.Rooms)-1)) % len(h.Rooms)
		x.Secs, x.Back = min(x.Secs, api.MaxSecs), min(x.Back, api.MaxSecs)
		h.Ways = append(h.Ways, x)
	}
	return h
}

// exampleHouse is the house of the chapter's examples.
func exampleHouse() api.House {
	return api.House{
		Rooms: []api.Room{{Name: "gate"}, {Name: "mill"}, {Name: "loft", Floor: 1}},
		Doors: []api.Door{{Hours: spans(span(21600, 64800))}},
		Ways:  []api.Way{{A: 0, B: 1, Secs: 60, Back: 60, Door: -1}, {A: 1, B: 2, Secs: 30, Back: 0, Door: 0}},
	}
}

// fullHouse has as many rooms, doors and ways as there may be, with as many spans, and the greatest numbers.
func fullHouse() api.House {
	var h api.House
	for k := range api.MaxRooms {
		h.Rooms = append(h.Rooms, api.Room{Name: "abcdefghijklmno" + string(rune('a'+k)), Floor: api.MaxFloor * (k%3 - 1)})
	}
	for range api.MaxDoors {
		var d api.Door
		for k := range api.MaxSpans {
			d.Hours = append(d.Hours, span(k*10000, k*10000+9998))
			d.Shut = append(d.Shut, span(api.MaxTime-14+2*k, api.MaxTime-14+2*k))
		}
		d.Hours[api.MaxSpans-1].Hi = api.DaySecs - 1
		h.Doors = append(h.Doors, d)
	}
	for k := range api.MaxWays {
		h.Ways = append(h.Ways, api.Way{A: k % api.MaxRooms, B: (k + 1) % api.MaxRooms, Secs: api.MaxSecs, Back: api.MaxSecs, Door: k % api.MaxDoors})
	}
	return h
}

// copyOf returns a house with memory of its own.
func copyOf(h api.House) api.House {
	h.Rooms, h.Doors, h.Ways = slices.Clone(h.Rooms), slices.Clone(h.Doors), slices.Clone(h.Ways)
	for k, d := range h.Doors {
		h.Doors[k] = api.Door{Hours: slices.Clone(d.Hours), Shut: slices.Clone(d.Shut)}
	}
	return h
}

// way is a way in one direction, as the chapter defines it.
type way struct {
	n, from, to, secs int
	back              bool
	door              int
}

func waysOf(h api.House) []way {
	var l []way
	for k, x := range h.Ways {
		l = append(l, way{k, x.A, x.B, x.Secs, false, x.Door})
		if x.Back > 0 {
			l = append(l, way{k, x.B, x.A, x.Back, true, x.Door})
		}
	}
	return l
}

// isOpen is the definition of a door that is open.
func isOpen(d api.Door, t int) bool {
	open := false
	for _, x := range d.Hours {
		open = open || x.Lo <= t%api.DaySecs && t%api.DaySecs <= x.Hi
	}
	for _, x := range d.Shut {
		open = open && (t < x.Lo || t > x.Hi)
	}
	return open
}

// canGo reports whether one can begin to go a way at t, but for its end.
func canGo(h api.House, x way, t int) bool { return x.door < 0 || isOpen(h.Doors[x.door], t) }

// firstTimes looks second by second when one who is in a room at t can be in each room, up to the time last; api.Never if not until then.
func firstTimes(h api.House, from, t, last int) []int {
	l, times := waysOf(h), slices.Repeat([]int{api.Never}, len(h.Rooms))
	times[from] = t
	for now := t; now <= last; now++ {
		for _, x := range l {
			if times[x.from] <= now && now+x.secs < times[x.to] && now+x.secs <= last && canGo(h, x, now) {
				times[x.to] = now + x.secs
			}
		}
	}
	return times
}

// lastTimes looks second by second until when one can be in each room who is in a room at t, back to the time first; -1 if not since then.
func lastTimes(h api.House, to, t, first int) []int {
	l, times := waysOf(h), slices.Repeat([]int{-1}, len(h.Rooms))
	times[to] = t
	for now := t; now >= first; now-- {
		for _, x := range l {
			if now+x.secs <= times[x.to] && now > times[x.from] && canGo(h, x, now) {
				times[x.from] = now
			}
		}
	}
	return times
}

// enterTime is the definition of Enter, looked for until the time last.
func enterTime(h api.House, x way, t, last int) int {
	for now := t; now <= last; now++ {
		if canGo(h, x, now) && now+x.secs <= api.MaxTime {
			return now + x.secs
		}
	}
	return api.Never
}

func same[T comparable](t *testing.T, what string, got, want []T) {
	t.Helper()
	if !slices.Equal(got, want) {
		t.Errorf("%s: %v, not %v", what, got, want)
	}
}

func isSame(a, b api.House) bool {
	return slices.Equal(a.Rooms, b.Rooms) && slices.Equal(a.Ways, b.Ways) && slices.EqualFunc(a.Doors, b.Doors, func(x, y api.Door) bool {
		return slices.Equal(x.Hours, y.Hours) && slices.Equal(x.Shut, y.Shut)
	})
}

func sameHouse(t *testing.T, what string, got, want api.House) {
	t.Helper()
	if !isSame(got, want) {
		t.Errorf("%s: %v, not %v", what, got, want)
	}
}

// with returns the example house, changed.
func with(change func(h *api.House)) api.House {
	h := exampleHouse()
	change(&h)
	return h
}

// args are arguments of the functions.
type args struct {
	name           string
	door, way      int
	back           bool
	a, ta, b, tb   int
	s              api.Span
	steps          []api.Step
	labels, series []int
}

// rightArgs are right for the example house.
func rightArgs() args {
	return args{name: "mill", way: 1, a: 0, ta: 0, b: 2, tb: 21629, s: span(0, 9), labels: []int{0, 60, 21630}, series: []int{0, 1, 2}}
}

// outcome is what a call returned: its error, and whether all other results were zero.
type outcome struct {
	e    api.Errno
	zero bool
}

// calls returns the outcome of each function but Check and Parse.
func calls(h api.House, x args) map[string]outcome {
	m := map[string]outcome{}
	put := func(name string, e api.Errno, zero bool) { m[name] = outcome{e, zero} }
	n, e := house.Find(h, x.name)
	put("Find", e, n == 0)
	is, e := house.IsOpen(h, x.door, x.ta)
	put("IsOpen", e, !is)
	n, e = house.NextOpen(h, x.door, x.ta)
	put("NextOpen", e, n == 0)
	n, e = house.LastOpen(h, x.door, x.ta)
	put("LastOpen", e, n == 0)
	o, e := house.Openings(h, x.door, x.s)
	put("Openings", e, len(o) == 0)
	n, e = house.Enter(h, x.way, x.back, x.ta)
	put("Enter", e, n == 0)
	n, e = house.Depart(h, x.way, x.back, x.ta)
	put("Depart", e, n == 0)
	room, n, e := house.Walk(h, x.a, x.ta, x.steps)
	put("Walk", e, room == 0 && n == 0)
	l, e := house.Earliest(h, x.a, x.ta)
	put("Earliest", e, len(l) == 0)
	l, e = house.Latest(h, x.a, x.ta)
	put("Latest", e, len(l) == 0)
	steps, e := house.Route(h, x.a, x.ta, x.b)
	put("Route", e, len(steps) == 0)
	is, e = house.Can(h, x.a, x.ta, x.b, x.tb)
	put("Can", e, !is)
	put("CheckLabels", house.CheckLabels(h, x.a, x.ta, x.labels), true)
	l, e = house.Wall(h, x.a, x.ta, x.b, x.tb)
	put("Wall", e, len(l) == 0)
	put("CheckWall", house.CheckWall(h, x.a, x.ta, x.b, x.tb, x.labels), true)
	n, e = house.Least(h, x.a, x.b)
	put("Least", e, n == 0)
	rows, e := house.Distances(h)
	put("Distances", e, len(rows) == 0)
	n, e = house.Tour(h, x.series, x.ta)
	put("Tour", e, n == 0)
	room, n, e = house.Nearest(h, x.a, x.ta, x.series)
	put("Nearest", e, room == 0 && n == 0)
	other, e := house.Shut(h, x.door, x.s)
	put("Shut", e, isSame(other, api.House{}))
	text, e := house.Print(h)
	put("Print", e, text == "")
	return m
}
