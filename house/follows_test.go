package house_test

import (
	"slices"
	"testing"

	"patrol/api"
	"patrol/house"
)

// anywhen returns a house, a room, and a time near the first, the last, or some other one.
func (c *chance) anywhen() (api.House, int, int) {
	if k := c.n(3); k < 2 {
		return c.edge(k == 0)
	}
	base := c.n(api.MaxTime)
	h := c.house(6, 10, base, 2000)
	return h, c.n(len(h.Rooms)), min(api.MaxTime, base+c.n(3000))
}

func TestP3_16(t *testing.T) {
	c := chance(316)
	later := 0
	for range 1500 {
		h, room, now := c.anywhen()
		then := min(api.MaxTime, now+c.pick(1, c.n(100), c.n(5000), c.n(api.MaxTime)))
		for _, x := range waysOf(h) {
			a, e := house.Enter(h, x.n, x.back, now)
			b, f := house.Enter(h, x.n, x.back, then)
			if a > b || e != api.OK || f != api.OK {
				t.Error("Enter", h, x, now, a, then, b)
			}
			a, e = house.Depart(h, x.n, x.back, now)
			b, f = house.Depart(h, x.n, x.back, then)
			if a > b || e != api.OK || f != api.OK {
				t.Error("Depart", h, x, now, a, then, b)
			}
		}
		first, _ := house.Earliest(h, room, now)
		second, _ := house.Earliest(h, room, then)
		last, _ := house.Latest(h, room, now)
		beyond, _ := house.Latest(h, room, then)
		for k := range first {
			if first[k] > second[k] || last[k] > beyond[k] {
				t.Error("Earliest, Latest", h, room, now, first, last, then, second, beyond)
			}
			if first[k] < second[k] && second[k] < api.Never && k != room {
				later++
			}
			a, e := house.Tour(h, []int{room, k, room, k}, now)
			b, f := house.Tour(h, []int{room, k, room, k}, then)
			if a > b || e != api.OK || f != api.OK {
				t.Error("Tour", h, room, k, now, a, then, b)
			}
		}
	}
	if later < 200 {
		t.Error("not an even test:", later)
	}
}

// wander returns a possible walk by chance.
func (c *chance) wander(h api.House, room, t int) []api.Step {
	var l []api.Step
	for range 4 * c.n(api.MaxSteps) {
		ways := waysOf(h)
		if len(ways) == 0 || len(l) == api.MaxSteps {
			break
		}
		x := ways[c.n(len(ways))]
		at := t + c.pick(0, 0, 1, c.n(30))
		if x.from == room && at <= api.MaxTime {
			if x.door >= 0 {
				at, _ = house.NextOpen(h, x.door, at)
			}
			if at+x.secs <= api.MaxTime {
				l = append(l, api.Step{Way: x.n, Back: x.back, At: at})
				room, t = x.to, at+x.secs
			}
		}
	}
	return l
}

func TestP3_17(t *testing.T) {
	c := chance(317)
	steps := 0
	for range 2000 {
		h, from, now := c.anywhen()
		times, _ := house.Earliest(h, from, now)
		l := c.wander(h, from, now)
		steps += len(l)
		room, at, e := house.Walk(h, from, now, l)
		if e != api.OK || at < times[room] {
			t.Error("Walk", h, from, now, l, room, at, e, times)
		}
		for to, first := range times {
			if first == api.Never {
				continue
			}
			route, e := house.Route(h, from, now, to)
			room, at, f := house.Walk(h, from, now, route)
			if e != api.OK || f != api.OK || room != to || at != first {
				t.Error("Route", h, from, now, to, route, e, f)
			}
		}
	}
	if steps < 5000 {
		t.Error("not an even test:", steps)
	}
}

func TestP3_18And19(t *testing.T) {
	c := chance(318)
	cans, cannots := 0, 0
	for range 1500 {
		h, a, ta := c.anywhen()
		first, _ := house.Earliest(h, a, ta)
		for b := range first {
			tb := max(0, min(api.MaxTime, c.pick(first[b]-1, first[b], first[b]+1, ta+c.n(1000), c.n(api.MaxTime))))
			last, _ := house.Latest(h, b, tb)
			is, e := house.Can(h, a, ta, b, tb)
			if e != api.OK || is != (first[b] <= tb) || is != (last[a] >= ta) {
				t.Error("Can", h, a, ta, b, tb, is, e, first, last)
			}
			wall, e := house.Wall(h, a, ta, b, tb)
			if is != (e == api.ErrNone) || !is && (e != api.OK || house.CheckWall(h, a, ta, b, tb, wall) != api.OK) {
				t.Error("Wall", h, a, ta, b, tb, is, wall, e)
			}
			if is && house.CheckWall(h, a, ta, b, tb, first) != api.ErrProof {
				t.Error("CheckWall", h, a, ta, b, tb, first)
			}
			if is {
				cans++
			} else {
				cannots++
			}
		}
	}
	if cans < 1000 || cannots < 1000 {
		t.Error("not an even test:", cans, cannots)
	}
}

func TestP3_20(t *testing.T) {
	c := chance(320)
	changed, walls := 0, 0
	for range 2000 {
		h, room, now := c.anywhen()
		if len(h.Doors) == 0 {
			continue
		}
		s := span(max(0, now-c.n(500)), 0)
		s.Hi = min(api.MaxTime, max(0, s.Lo+c.pick(c.n(1000), c.n(1000), c.n(api.MaxTime))))
		other, e := house.Shut(h, c.n(len(h.Doors)), s)
		if e == api.ErrLimit {
			continue
		}
		first, _ := house.Earliest(h, room, now)
		second, _ := house.Earliest(other, room, now)
		last, _ := house.Latest(h, room, now)
		before, _ := house.Latest(other, room, now)
		for k := range first {
			if e != api.OK || first[k] > second[k] || last[k] < before[k] {
				t.Error("Shut", h, s, room, now, first, second, last, before)
			}
			if first[k] < second[k] || last[k] > before[k] {
				changed++
			}
			tb := max(0, min(api.MaxTime, first[k]-c.from(1, 50)))
			if wall, e := house.Wall(h, room, now, k, tb); e == api.OK {
				walls++
				if f := house.CheckWall(other, room, now, k, tb, wall); f != api.OK {
					t.Error("CheckWall", h, s, room, now, k, tb, wall, f)
				}
			}
		}
	}
	if changed < 200 || walls < 1000 {
		t.Error("not an even test:", changed, walls)
	}
}

func TestP3_21(t *testing.T) {
	c := chance(321)
	exact, late := 0, 0
	for range 1500 {
		h, _, now := c.anywhen()
		open := copyOf(h)
		open.Doors = nil
		for k := range open.Ways {
			open.Ways[k].Door = -1
		}
		rows, _ := house.Distances(h)
		for a, row := range rows {
			times, _ := house.Earliest(h, a, now)
			free, _ := house.Earliest(open, a, now)
			for b, secs := range row {
				want := now + secs
				if secs < 0 || want > api.MaxTime {
					want = api.Never
				}
				if times[b] < want || free[b] != want {
					t.Error("Earliest", h, a, b, now, times, free, row)
				}
				if want < api.Never && secs > 0 {
					exact++
				}
				if times[b] > want {
					late++
				}
				for k, onward := range rows[b] {
					if secs >= 0 && onward >= 0 && (row[k] < 0 || row[k] > secs+onward) {
						t.Error("Distances", h, a, b, k, rows)
					}
				}
			}
			if row[a] != 0 || !slices.Equal(row, rows[a]) {
				t.Error("Distances", h, a, row)
			}
		}
	}
	if exact < 1000 || late < 1000 {
		t.Error("not an even test:", exact, late)
	}
}
