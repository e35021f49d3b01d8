package house_test

import (
	"testing"

	"patrol/api"
	"patrol/house"
)

// behind returns a house whose way leads through a door.
func behind(d api.Door) api.House {
	return api.House{Rooms: named("a", "b"), Doors: []api.Door{{}, d}, Ways: []api.Way{{A: 0, B: 1, Secs: 7, Back: 5, Door: 1}, {A: 1, B: 0, Secs: 3, Door: -1}}}
}

func TestP3_3(t *testing.T) {
	c := chance(33)
	opened, never := 0, 0
	for range 400 {
		base := c.pick(0, c.n(5000), 86000+c.n(800), 86400*c.n(10000)+86000, api.MaxTime-c.n(700), c.n(api.MaxTime-2000))
		secs := 600
		d := c.door(base, secs)
		h := behind(d)
		first, last := max(0, base-50), min(api.MaxTime, base+secs+50)
		next, nextIs := api.Never, last == api.MaxTime
		for now := last; now >= first; now-- {
			if isOpen(d, now) {
				next, nextIs = now, true
				opened++
			}
			n, e := house.NextOpen(h, 1, now)
			if e != api.OK || nextIs && n != next || !nextIs && n <= last {
				t.Fatal("NextOpen", d, now, n, e, "not", next)
			}
			if is, e := house.IsOpen(h, 1, now); e != api.OK || is != isOpen(d, now) {
				t.Fatal("IsOpen", d, now, is, e)
			}
		}
		before, beforeIs := -1, first == 0
		for now := first; now <= last; now++ {
			if isOpen(d, now) {
				before, beforeIs = now, true
			} else {
				never++
			}
			n, e := house.LastOpen(h, 1, now)
			if e != api.OK || beforeIs && n != before || !beforeIs && n >= first {
				t.Fatal("LastOpen", d, now, n, e, "not", before)
			}
		}
	}
	if opened < 20000 || never < 20000 {
		t.Error("not an even test:", opened, never)
	}
}

func TestP3_3Edges(t *testing.T) {
	const day = api.DaySecs
	lastDay := api.MaxTime / day * day
	whole := spans(span(0, day-1))
	for k, x := range []struct {
		d               api.Door
		t, next, before int
	}{
		{api.Door{}, 0, api.Never, -1},
		{api.Door{}, api.MaxTime, api.Never, -1},
		{api.Door{Hours: whole}, 0, 0, 0},
		{api.Door{Hours: whole}, api.MaxTime, api.MaxTime, api.MaxTime},
		{api.Door{Hours: whole, Shut: spans(span(0, api.MaxTime))}, 5, api.Never, -1},
		{api.Door{Hours: whole, Shut: spans(span(1, api.MaxTime-1))}, 5, api.MaxTime, 0},
		{api.Door{Hours: whole, Shut: spans(span(0, api.MaxTime-1))}, 5, api.MaxTime, -1},
		{api.Door{Hours: whole, Shut: spans(span(1, api.MaxTime))}, 5, api.Never, 0},
		{api.Door{Hours: whole, Shut: spans(span(0, 9), span(11, 20))}, 0, 10, -1},
		{api.Door{Hours: whole, Shut: spans(span(0, 9), span(11, 20))}, 11, 21, 10},
		{api.Door{Hours: spans(span(day-1, day-1))}, day, 2*day - 1, day - 1},
		{api.Door{Hours: spans(span(0, 0))}, 1, day, 0},
		{api.Door{Hours: spans(span(0, 0))}, lastDay, lastDay, lastDay},
		{api.Door{Hours: spans(span(0, 0))}, lastDay + 1, api.Never, lastDay},
		{api.Door{Hours: spans(span(day-1, day-1))}, 0, day - 1, -1},
		{api.Door{Hours: spans(span(100, 200)), Shut: spans(span(150, 5*day+149))}, 150, 5*day + 150, 149},
		{api.Door{Hours: spans(span(100, 200)), Shut: spans(span(150, 5*day+200))}, 150, 6*day + 100, 149},
		{api.Door{Hours: spans(span(100, 200)), Shut: spans(span(100, 200), span(day+100, day+200))}, 50, 2*day + 100, -1},
		{api.Door{Hours: spans(span(100, 200)), Shut: spans(span(100, 200), span(day+100, day+200))}, day + 300, 2*day + 100, -1},
		{api.Door{Hours: spans(span(100, 200)), Shut: spans(span(150, api.MaxTime))}, api.MaxTime, api.Never, 149},
	} {
		h := behind(x.d)
		n, e := house.NextOpen(h, 1, x.t)
		l, f := house.LastOpen(h, 1, x.t)
		is, g := house.IsOpen(h, 1, x.t)
		if e != api.OK || f != api.OK || g != api.OK || n != x.next || l != x.before || is != (n == x.t) || is != (l == x.t) {
			t.Error(k, n, l, is, e, f, g)
		}
	}
}

// openings looks second by second when a door is open.
func openings(d api.Door, s api.Span) []api.Span {
	var l []api.Span
	was := false
	for now := s.Lo; now <= s.Hi; now++ {
		is := isOpen(d, now)
		if is && was {
			l[len(l)-1].Hi = now
		} else if is {
			l = append(l, span(now, now))
		}
		was = is
	}
	return l
}

func TestP3_4(t *testing.T) {
	c := chance(34)
	many := 0
	for k := range 600 {
		base := c.pick(0, c.n(5000), 86000+c.n(800), 86400*c.n(10000)+86000, api.MaxTime-c.n(700), c.n(api.MaxTime-2000))
		d := c.door(base, 600)
		s := span(base, min(api.MaxTime, base+c.pick(0, 1, c.n(700))))
		if k%30 == 0 {
			s.Hi = min(api.MaxTime, base+7*api.DaySecs-1-c.pick(0, 1, c.n(api.DaySecs)))
		}
		want := openings(d, s)
		got, e := house.Openings(behind(d), 1, s)
		if e != api.OK {
			t.Error(e)
		}
		same(t, "Openings", got, want)
		if len(want) > 1 {
			many++
		}
	}
	if many < 100 {
		t.Error("not an even test:", many)
	}
}

func TestP3_4Edges(t *testing.T) {
	const day = api.DaySecs
	always := api.Door{Hours: spans(span(0, day-1))}
	night := api.Door{Hours: spans(span(0, 99), span(80000, day-1))}
	for k, x := range []struct {
		d    api.Door
		s    api.Span
		want []api.Span
	}{
		{always, span(0, 7*day-1), spans(span(0, 7*day-1))},
		{always, span(api.MaxTime-7*day+1, api.MaxTime), spans(span(api.MaxTime-7*day+1, api.MaxTime))},
		{always, span(5, 5), spans(span(5, 5))},
		{always, span(api.MaxTime, api.MaxTime), spans(span(api.MaxTime, api.MaxTime))},
		{api.Door{}, span(0, 7*day-1), nil},
		{night, span(50, 2*day), spans(span(50, 99), span(80000, day+99), span(day+80000, 2*day))},
		{night, span(100, 79999), nil},
		{night, span(day-1, day), spans(span(day-1, day))},
		{night, span(99, 80000), spans(span(99, 99), span(80000, 80000))},
		{api.Door{Hours: always.Hours, Shut: spans(span(0, 9), span(20, 29), span(40, api.MaxTime))}, span(0, 100), spans(span(10, 19), span(30, 39))},
		{api.Door{Hours: night.Hours, Shut: spans(span(day-1, day-1))}, span(0, 2*day-1), spans(span(0, 99), span(80000, day-2), span(day, day+99), span(day+80000, 2*day-1))},
		{api.Door{Hours: night.Hours, Shut: spans(span(day, day))}, span(day-5, day+5), spans(span(day-5, day-1), span(day+1, day+5))},
	} {
		got, e := house.Openings(behind(x.d), 1, x.s)
		if e != api.OK {
			t.Error(k, e)
		}
		same(t, "Openings", got, x.want)
	}
	h := fullHouse()
	if l, e := house.Openings(h, 0, span(0, 7*day-1)); len(l) != 7*(api.MaxSpans-1)+1 || e != api.OK {
		t.Error("Openings of as many hours as there may be:", l, e)
	}
}

func TestP3_4Errors(t *testing.T) {
	const day = api.DaySecs
	for _, x := range []struct {
		door int
		s    api.Span
		e    api.Errno
	}{
		{1, span(5, 4), api.ErrArg}, {1, span(-1, 4), api.ErrArg}, {1, span(-2, -1), api.ErrArg}, {1, span(0, api.Never), api.ErrArg}, {1, span(api.Never, api.Never), api.ErrArg}, {1, span(maxInt, minInt), api.ErrArg}, {1, span(minInt, maxInt), api.ErrArg}, {1, span(api.MaxTime, 0), api.ErrArg},
		{1, span(0, 7*day), api.ErrLimit}, {1, span(3, 7*day+3), api.ErrLimit}, {1, span(0, api.MaxTime), api.ErrLimit}, {2, span(0, 7*day), api.ErrArg}, {-1, span(0, 5), api.ErrArg},
	} {
		if l, e := house.Openings(behind(api.Door{Hours: spans(span(0, 5))}), x.door, x.s); e != x.e || len(l) > 0 {
			t.Error("Openings", x, l, e)
		}
	}
}

func TestP3_5(t *testing.T) {
	c := chance(35)
	never := 0
	for range 400 {
		base := c.pick(0, c.n(50), c.n(5000), 86000+c.n(800), api.MaxTime-c.n(700))
		secs := 400
		h := c.house(3, 6, base, secs)
		first, last := max(0, base-secs), min(api.MaxTime, base+secs)
		for _, x := range waysOf(h) {
			now := c.from(first, last)
			want := enterTime(h, x, now, last)
			got, e := house.Enter(h, x.n, x.back, now)
			if e != api.OK || got != want && (last == api.MaxTime || want < api.Never || got <= last) {
				t.Error("Enter", h, x, now, got, e, "not", want)
			}
			if want == api.Never {
				never++
			}
			want = -1
			for at := max(first, 0); at+x.secs <= now; at++ {
				if canGo(h, x, at) {
					want = at
				}
			}
			got, e = house.Depart(h, x.n, x.back, now)
			if e != api.OK || got != want && (first == 0 || want >= 0 || got >= first) {
				t.Error("Depart", h, x, now, got, e, "not", want)
			}
		}
	}
	if never < 50 {
		t.Error("not an even test:", never)
	}
}

func TestP3_5Edges(t *testing.T) {
	h := behind(api.Door{Hours: spans(span(100, 200)), Shut: spans(span(150, 160))})
	for _, x := range []struct {
		way           int
		back          bool
		t             int
		enter, depart int
	}{
		{0, false, 0, 107, -1}, {0, false, 106, 113, -1}, {0, false, 107, 114, 100}, {0, false, 149, 156, 142}, {0, false, 150, 168, 143}, {0, false, 156, 168, 149}, {0, false, 167, 174, 149}, {0, false, 168, 175, 161}, {0, false, 200, 207, 193}, {0, false, 201, 86507, 194}, {0, false, 86506, 86513, 200},
		{0, true, 104, 109, -1}, {0, true, 105, 110, 100}, {0, true, 201, 86505, 196},
		{1, false, 0, 3, -1}, {1, false, 2, 5, -1}, {1, false, 3, 6, 0}, {1, false, api.MaxTime, api.Never, api.MaxTime - 3}, {1, false, api.MaxTime - 3, api.MaxTime, api.MaxTime - 6}, {1, false, api.MaxTime - 2, api.Never, api.MaxTime - 5},
	} {
		n, e := house.Enter(h, x.way, x.back, x.t)
		l, f := house.Depart(h, x.way, x.back, x.t)
		if n != x.enter || l != x.depart || e != api.OK || f != api.OK {
			t.Error(x, n, l, e, f)
		}
	}
	// The door opens for the last time when it is too late to arrive.
	late := behind(api.Door{Hours: spans(span(0, api.DaySecs-1)), Shut: spans(span(0, api.MaxTime-6))})
	if n, e := house.Enter(late, 0, false, 0); n != api.Never || e != api.OK {
		t.Error("Enter", n, e)
	}
	if n, e := house.Enter(late, 0, true, 0); n != api.MaxTime || e != api.OK {
		t.Error("Enter", n, e)
	}
	if n, e := house.Depart(late, 0, true, api.MaxTime); n != api.MaxTime-5 || e != api.OK {
		t.Error("Depart", n, e)
	}
	if n, e := house.Enter(h, 1, true, 0); n != 0 || e != api.ErrNone {
		t.Error("Enter", n, e)
	}
	if n, e := house.Depart(h, 1, true, 0); n != 0 || e != api.ErrNone {
		t.Error("Depart", n, e)
	}
}
