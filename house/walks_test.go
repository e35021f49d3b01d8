package house_test

import (
	"slices"
	"testing"

	"patrol/api"
	"patrol/house"
)

func ahead(way, at int) api.Step { return api.Step{Way: way, At: at} }

func goBack(way, at int) api.Step { return api.Step{Way: way, Back: true, At: at} }

func TestP3_6(t *testing.T) {
	h := exampleHouse()
	var pacing []api.Step
	for k := range api.MaxSteps {
		pacing = append(pacing, api.Step{Way: 0, Back: k%2 == 1, At: 10 + 60*k})
	}
	for k, x := range []struct {
		from, t  int
		l        []api.Step
		room, at int
		e        api.Errno
	}{
		{1, 7, nil, 1, 7, api.OK},
		{2, api.MaxTime, []api.Step{}, 2, api.MaxTime, api.OK},
		{0, 0, []api.Step{ahead(0, 0)}, 1, 60, api.OK},
		{0, 0, []api.Step{ahead(0, 0), goBack(0, 60), ahead(0, 121)}, 1, 181, api.OK},
		{0, 10, pacing, 0, 10 + 60*api.MaxSteps, api.OK},
		{0, 10, append(slices.Clone(pacing), ahead(0, 5000)), 0, 0, api.ErrLimit},
		{0, 0, make([]api.Step, api.MaxSteps+1), 0, 0, api.ErrLimit},
		{0, 0, []api.Step{ahead(2, 0)}, 0, 0, api.ErrArg},
		{0, 0, []api.Step{ahead(-1, 0)}, 0, 0, api.ErrArg},
		{0, 0, []api.Step{ahead(minInt, 0)}, 0, 0, api.ErrArg},
		{2, 0, []api.Step{goBack(1, 21600)}, 0, 0, api.ErrArg},
		{0, 0, []api.Step{ahead(0, -1)}, 0, 0, api.ErrArg},
		{0, 0, []api.Step{ahead(0, api.Never)}, 0, 0, api.ErrArg},
		{0, 0, []api.Step{ahead(0, maxInt)}, 0, 0, api.ErrArg},
		{0, 0, []api.Step{ahead(0, minInt)}, 0, 0, api.ErrArg},
		{1, 0, []api.Step{ahead(0, -1)}, 0, 0, api.ErrArg},     // and not from there
		{0, 0, []api.Step{goBack(1, 21600)}, 0, 0, api.ErrArg}, // and not from there
		{1, 0, []api.Step{ahead(0, 0)}, 0, 0, api.ErrState},
		{0, 0, []api.Step{goBack(0, 0)}, 0, 0, api.ErrState},
		{2, 0, []api.Step{ahead(1, 21600)}, 0, 0, api.ErrState},
		{0, 10, []api.Step{ahead(1, 9)}, 0, 0, api.ErrState}, // and too early, and shut
		{0, 10, []api.Step{ahead(0, 9)}, 0, 0, api.ErrRange},
		{0, 10, []api.Step{ahead(0, 10)}, 1, 70, api.OK},
		{0, 10, []api.Step{ahead(0, 10), goBack(0, 69)}, 0, 0, api.ErrRange},
		{0, 10, []api.Step{ahead(0, 12), goBack(0, 71)}, 0, 0, api.ErrRange}, // one came at 72, not at 10
		{1, 10, []api.Step{ahead(1, 9)}, 0, 0, api.ErrRange},                 // and shut
		{1, 0, []api.Step{ahead(1, 21599)}, 0, 0, api.ErrClash},
		{1, 0, []api.Step{ahead(1, 21600)}, 2, 21630, api.OK},
		{1, 0, []api.Step{ahead(1, 64800)}, 2, 64830, api.OK}, // the door shuts meanwhile
		{1, 0, []api.Step{ahead(1, 64801)}, 0, 0, api.ErrClash},
		{1, 0, []api.Step{ahead(1, api.MaxTime)}, 2, 0, api.ErrRange},
		{0, 0, []api.Step{ahead(0, api.MaxTime-60)}, 1, api.MaxTime, api.OK},
		{0, 0, []api.Step{ahead(0, api.MaxTime-59)}, 0, 0, api.ErrRange},
		{0, 0, []api.Step{ahead(0, api.MaxTime)}, 0, 0, api.ErrRange},
		{0, 0, []api.Step{ahead(1, 0), ahead(9, 0)}, 0, 0, api.ErrState},
		{0, 0, []api.Step{ahead(0, 0), ahead(9, 0)}, 0, 0, api.ErrArg},
		{0, 0, []api.Step{ahead(0, 0), ahead(1, 70), ahead(9, 0)}, 0, 0, api.ErrClash},
		{0, 0, []api.Step{ahead(0, api.MaxTime), ahead(9, 0)}, 0, 0, api.ErrRange},
	} {
		if x.e != api.OK {
			x.room, x.at = 0, 0
		}
		room, at, e := house.Walk(h, x.from, x.t, x.l)
		if room != x.room || at != x.at || e != x.e {
			t.Error("Walk", k, x.l, room, at, e, "not", x.room, x.at, x.e)
		}
	}
	// A door that is open at the last second: it is shut, or the arrival is no time.
	h.Doors[0].Shut = spans(span(0, api.MaxTime-10))
	if _, _, e := house.Walk(h, 1, 0, []api.Step{ahead(1, api.MaxTime-11)}); e != api.ErrClash {
		t.Error("Walk", e)
	}
	if _, _, e := house.Walk(h, 1, 0, []api.Step{ahead(1, api.MaxTime)}); e != api.ErrRange {
		t.Error("Walk", e)
	}
	h.Doors[0].Shut = spans(span(0, api.MaxTime))
	if _, _, e := house.Walk(h, 1, 0, []api.Step{ahead(1, api.MaxTime)}); e != api.ErrClash {
		t.Error("Walk of a shut door, at whose end is no time:", e)
	}
}

// ended returns the room and the time of the end of a list of steps, as the chapter defines it; false if the walk is not possible.
func ended(h api.House, room, t int, l []api.Step) (int, int, bool) {
	for _, s := range l {
		k := slices.IndexFunc(waysOf(h), func(x way) bool { return x.n == s.Way && x.back == s.Back })
		if k < 0 {
			return 0, 0, false
		}
		x := waysOf(h)[k]
		if x.from != room || s.At < t || s.At+x.secs > api.MaxTime || !canGo(h, x, s.At) {
			return 0, 0, false
		}
		room, t = x.to, s.At+x.secs
	}
	return room, t, true
}

// TestP3_6Chance plays walks by chance, many of them possible.
func TestP3_6Chance(t *testing.T) {
	c := chance(36)
	possible := 0
	for range 3000 {
		base := c.pick(c.n(5000), api.MaxTime-c.n(700))
		h := c.house(4, 8, base, 100)
		room, now := c.n(len(h.Rooms)), base
		var l []api.Step
		at, since := room, now
		for range c.n(6) {
			for _, x := range waysOf(h) {
				if x.from == at && c.n(3) > 0 {
					s := api.Step{Way: x.n, Back: x.back, At: min(api.MaxTime, max(0, since+c.pick(0, 0, 0, c.n(40), -1)))}
					l = append(l, s)
					at, since = x.to, s.At+x.secs
				}
			}
		}
		l = l[:min(len(l), api.MaxSteps)]
		wantRoom, wantTime, is := ended(h, room, now, l)
		gotRoom, gotTime, e := house.Walk(h, room, now, l)
		if gotRoom != wantRoom || gotTime != wantTime || is != (e == api.OK) {
			t.Error("Walk", h, room, now, l, gotRoom, gotTime, e)
		}
		if is && len(l) > 1 {
			possible++
		}
	}
	if possible < 100 {
		t.Error("not an even test:", possible)
	}
}

// edge returns a house, a room, and a time near the first or the last one.
func (c *chance) edge(last bool) (api.House, int, int) {
	base := c.n(300)
	if last {
		base = api.MaxTime - c.n(1500)
	}
	h := c.house(6, 10, max(0, base-200), 500)
	return h, c.n(len(h.Rooms)), base
}

func TestP3_7Earliest(t *testing.T) {
	c := chance(37)
	reached, never := 0, 0
	for range 500 {
		h, from, now := c.edge(true)
		want := firstTimes(h, from, now, api.MaxTime)
		got, e := house.Earliest(h, from, now)
		same(t, "Earliest", got, want)
		if e != api.OK || house.CheckLabels(h, from, now, want) != api.OK {
			t.Error(e)
		}
		for room, at := range want {
			if at == api.Never {
				never++
			} else if room != from {
				reached++
			}
		}
	}
	if reached < 300 || never < 300 {
		t.Error("not an even test:", reached, never)
	}
}

func TestP3_7Latest(t *testing.T) {
	c := chance(371)
	reached, never := 0, 0
	for range 500 {
		h, to, now := c.edge(false)
		now += c.n(1000)
		want := lastTimes(h, to, now, 0)
		got, e := house.Latest(h, to, now)
		same(t, "Latest", got, want)
		if e != api.OK {
			t.Error(e)
		}
		for room, at := range want {
			if at == -1 {
				never++
			} else if room != to {
				reached++
			}
		}
	}
	if reached < 300 || never < 300 {
		t.Error("not an even test:", reached, never)
	}
}

// TestP3_7Days looks at some days in which doors open and close.
func TestP3_7Days(t *testing.T) {
	c := chance(372)
	late := 0
	for range 160 {
		base := api.DaySecs*c.n(1000) + c.n(api.DaySecs)
		h := c.house(4, 8, base, 4000)
		base += c.from(2000, 5000)
		from, last := c.n(len(h.Rooms)), base+3*api.DaySecs
		want := firstTimes(h, from, base, last)
		got, e := house.Earliest(h, from, base)
		for room, at := range want {
			if e != api.OK || got[room] != at && (at < api.Never || got[room] <= last) {
				t.Error("Earliest", h, from, base, got, want, e)
			}
			if at < api.Never && at > base+api.DaySecs/2 {
				late++
			}
		}
		first := max(0, last-3*api.DaySecs)
		want = lastTimes(h, from, last, first)
		got, e = house.Latest(h, from, last)
		for room, at := range want {
			if e != api.OK || got[room] != at && (at >= 0 || got[room] >= first) {
				t.Error("Latest", h, from, last, got, want, e)
			}
		}
	}
	if late < 20 {
		t.Error("not an even test:", late)
	}
}

func TestP3_7Edges(t *testing.T) {
	h := exampleHouse()
	h.Doors[0].Hours = nil
	for _, x := range []struct {
		from, t      int
		first, until []int
	}{
		{0, 0, []int{0, 60, api.Never}, []int{0, -1, -1}},
		{2, 5, []int{api.Never, api.Never, 5}, []int{-1, -1, 5}},
		{0, api.MaxTime, []int{api.MaxTime, api.Never, api.Never}, []int{api.MaxTime, api.MaxTime - 60, -1}},
		{0, api.MaxTime - 60, []int{api.MaxTime - 60, api.MaxTime, api.Never}, []int{api.MaxTime - 60, api.MaxTime - 120, -1}},
		{0, api.MaxTime - 59, []int{api.MaxTime - 59, api.Never, api.Never}, []int{api.MaxTime - 59, api.MaxTime - 119, -1}},
		{0, 60, []int{60, 120, api.Never}, []int{60, 0, -1}},
		{0, 59, []int{59, 119, api.Never}, []int{59, -1, -1}},
	} {
		got, e := house.Earliest(h, x.from, x.t)
		same(t, "Earliest", got, x.first)
		last, f := house.Latest(h, x.from, x.t)
		same(t, "Latest", last, x.until)
		if e != api.OK || f != api.OK {
			t.Error(e, f)
		}
	}
	// A longer way through fewer doors can be the better one; a later departure is not an earlier arrival.
	h = api.House{Rooms: named("a", "b", "c"), Doors: []api.Door{{Hours: spans(span(500, 600))}}, Ways: []api.Way{{A: 0, B: 2, Secs: 1, Door: 0}, {A: 0, B: 1, Secs: 300, Door: -1}, {A: 1, B: 2, Secs: 100, Door: -1}, {A: 0, B: 2, Secs: 3600, Door: -1}}}
	got, _ := house.Earliest(h, 0, 50)
	same(t, "Earliest", got, []int{50, 350, 450})
	got, _ = house.Earliest(h, 0, 150)
	same(t, "Earliest", got, []int{150, 450, 501})
	full, e := house.Earliest(fullHouse(), 3, 0)
	if e != api.OK || len(full) != api.MaxRooms || full[3] != 0 || full[4] != api.MaxSecs || full[15] != 12*api.MaxSecs {
		t.Error("Earliest of the full house:", full, e)
	}
}

func TestP3_8(t *testing.T) {
	c := chance(38)
	long, none := 0, 0
	for k := range 1500 {
		h, from, now := c.edge(k%2 == 0)
		times, _ := house.Earliest(h, from, now)
		to := c.n(len(h.Rooms))
		l, e := house.Route(h, from, now, to)
		if times[to] == api.Never {
			none++
			if e != api.ErrNone || len(l) > 0 {
				t.Error("Route", h, from, now, to, l, e)
			}
			continue
		}
		room, at, is := ended(h, from, now, l)
		if e != api.OK || !is || room != to || at != times[to] || len(l) > api.MaxSteps {
			t.Error("Route", h, from, now, to, l, e, room, at, is)
		}
		if len(l) > 1 {
			long++
		}
	}
	if long < 100 || none < 100 {
		t.Error("not an even test:", long, none)
	}
	if l, e := house.Route(exampleHouse(), 2, 7, 2); len(l) > 0 || e != api.OK {
		t.Error("Route to where one is:", l, e)
	}
	// A house in a row: the longest route.
	var h api.House
	for k := range api.MaxRooms {
		h.Rooms = append(h.Rooms, api.Room{Name: string(rune('a' + k))})
		if k > 0 {
			h.Ways = append(h.Ways, api.Way{A: k, B: k - 1, Secs: 9, Back: k, Door: -1})
		}
	}
	l, e := house.Route(h, 0, 5, api.MaxRooms-1)
	room, at, is := ended(h, 0, 5, l)
	if e != api.OK || len(l) != api.MaxRooms-1 || !is || room != api.MaxRooms-1 || at != 5+23*24/2 {
		t.Error("Route", l, e)
	}
}

func TestP3_9(t *testing.T) {
	c := chance(39)
	for k := range 600 {
		h, a, ta := c.edge(k%2 == 0)
		times, _ := house.Earliest(h, a, ta)
		for b, at := range times {
			for _, tb := range []int{at - 1, at, at + 1, c.n(api.MaxTime), api.MaxTime} {
				if tb < 0 || tb > api.MaxTime {
					continue
				}
				if is, e := house.Can(h, a, ta, b, tb); is != (at <= tb) || e != api.OK {
					t.Error("Can", h, a, ta, b, tb, is, e)
				}
			}
		}
	}
	for _, x := range [][5]int{{0, 100, 0, 99, 0}, {0, 100, 0, 100, 1}, {0, 100, 0, 101, 1}, {0, 100, 1, 159, 0}, {0, 100, 1, 160, 1}, {0, 100, 1, 5, 0}, {2, 0, 0, api.MaxTime, 0}} {
		if is, e := house.Can(exampleHouse(), x[0], x[1], x[2], x[3]); is != (x[4] == 1) || e != api.OK {
			t.Error("Can", x, is, e)
		}
	}
}

func TestP3_10(t *testing.T) {
	h := exampleHouse()
	for _, l := range [][]int{nil, {}, {0}, {0, 60}, {0, 60, 21631}, {0, 60, 21629}, {0, 61, 21630}, {0, 59, 21630}, {1, 60, 21630}, {-1, 60, 21630}, {0, 60, 21630, 0}, {0, 60, api.Never}, {0, 60, maxInt}, {0, 60, minInt}, {60, 0, 21630}, {0, 0, 0}} {
		if e := house.CheckLabels(h, 0, 0, l); e != api.ErrProof {
			t.Error("CheckLabels", l, e)
		}
	}
	if e := house.CheckLabels(h, 0, 0, []int{0, 60, 21630}); e != api.OK {
		t.Error("CheckLabels", e)
	}
	if e := house.CheckLabels(h, 2, 7, []int{api.Never, api.Never, 7}); e != api.OK {
		t.Error("CheckLabels", e)
	}
	if e := house.CheckLabels(h, 2, 7, []int{api.Never + 1, api.Never, 7}); e != api.ErrProof {
		t.Error("CheckLabels", e)
	}
	c := chance(310)
	for k := range 500 {
		h, from, now := c.edge(k%2 == 0)
		l, _ := house.Earliest(h, from, now)
		if e := house.CheckLabels(h, from, now, l); e != api.OK {
			t.Error("CheckLabels", h, from, now, l, e)
		}
		l[c.n(len(l))] += c.pick(-1, 1, 1+c.n(100), -1-c.n(100))
		if e := house.CheckLabels(h, from, now, l); e != api.ErrProof {
			t.Error("CheckLabels", h, from, now, l, e)
		}
	}
}
