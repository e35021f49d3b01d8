package house_test

import (
	"slices"
	"testing"

	"patrol/api"
	"patrol/house"
)

// joined returns the orderly list of the times of some spans from 0 to most, looked for second by second.
func joined(l []api.Span, most int) []api.Span {
	var all []api.Span
	was := false
	for now := range most + 1 {
		is := slices.ContainsFunc(l, func(x api.Span) bool { return x.Lo <= now && now <= x.Hi })
		if is && was {
			all[len(all)-1].Hi = now
		} else if is {
			all = append(all, span(now, now))
		}
		was = is
	}
	return all
}

func TestP3_14(t *testing.T) {
	c := chance(314)
	limits, fewer := 0, 0
	for range 1500 {
		h := c.house(4, 6, 0, 200)
		h.Doors = append(h.Doors, api.Door{Hours: c.spans(3, 0, api.DaySecs-1), Shut: c.spans(api.MaxSpans, 0, c.pick(30, 60, 200))})
		door := len(h.Doors) - 1
		s := span(c.n(220), 0)
		s.Hi = s.Lo + c.pick(0, 1, c.n(60))
		want := joined(append(slices.Clone(h.Doors[door].Shut), s), 300)
		got, e := house.Shut(h, door, s)
		if len(want) > api.MaxSpans {
			limits++
			if e != api.ErrLimit || !isSame(got, api.House{}) {
				t.Error("Shut", h, s, got, e)
			}
			continue
		}
		if len(want) < len(h.Doors[door].Shut) {
			fewer++
		}
		other := copyOf(h)
		other.Doors[door].Shut = want
		sameHouse(t, "Shut", got, other)
		if f, _ := house.Check(got); e != api.OK || f != api.OK {
			t.Error(e, f)
		}
	}
	if limits < 10 || fewer < 100 {
		t.Error("not an even test:", limits, fewer)
	}
}

func TestP3_14Edges(t *testing.T) {
	old := spans(span(10, 19), span(30, 39), span(50, 59))
	eight := spans(span(0, 0), span(2, 2), span(4, 4), span(6, 6), span(8, 8), span(10, 10), span(12, 12), span(20, 20))
	for _, x := range []struct {
		shut []api.Span
		s    api.Span
		want []api.Span
		e    api.Errno
	}{
		{nil, span(0, api.MaxTime), spans(span(0, api.MaxTime)), api.OK},
		{nil, span(api.MaxTime, api.MaxTime), spans(span(api.MaxTime, api.MaxTime)), api.OK},
		{old, span(0, api.MaxTime), spans(span(0, api.MaxTime)), api.OK},
		{spans(span(0, api.MaxTime)), span(5, 6), spans(span(0, api.MaxTime)), api.OK},
		{spans(span(5, api.MaxTime)), span(0, 3), spans(span(0, 3), span(5, api.MaxTime)), api.OK},
		{spans(span(5, api.MaxTime)), span(0, 4), spans(span(0, api.MaxTime)), api.OK},
		{old, span(0, 8), spans(span(0, 8), span(10, 19), span(30, 39), span(50, 59)), api.OK},
		{old, span(0, 9), spans(span(0, 19), span(30, 39), span(50, 59)), api.OK},
		{old, span(20, 28), spans(span(10, 28), span(30, 39), span(50, 59)), api.OK},
		{old, span(20, 29), spans(span(10, 39), span(50, 59)), api.OK},
		{old, span(21, 28), spans(span(10, 19), span(21, 28), span(30, 39), span(50, 59)), api.OK},
		{old, span(15, 55), spans(span(10, 59)), api.OK},
		{old, span(31, 38), old, api.OK},
		{old, span(30, 39), old, api.OK},
		{old, span(61, 61), spans(span(10, 19), span(30, 39), span(50, 59), span(61, 61)), api.OK},
		{old, span(60, 60), spans(span(10, 19), span(30, 39), span(50, 60)), api.OK},
		{eight, span(22, 22), nil, api.ErrLimit},
		{eight, span(14, 18), nil, api.ErrLimit},
		{eight, span(14, 19), append(slices.Clone(eight[:7]), span(14, 20)), api.OK},
		{eight, span(1, 1), append(spans(span(0, 2)), eight[2:]...), api.OK},
		{eight, span(2, 2), eight, api.OK},
		{eight, span(5, 4), nil, api.ErrArg}, {eight, span(-1, 4), nil, api.ErrArg}, {eight, span(22, api.Never), nil, api.ErrArg}, {old, span(maxInt, minInt), nil, api.ErrArg}, {old, span(minInt, maxInt), nil, api.ErrArg}, {old, span(api.Never, api.Never), nil, api.ErrArg},
	} {
		h := behind(api.Door{Hours: spans(span(5, 7)), Shut: x.shut})
		got, e := house.Shut(h, 1, x.s)
		if e != x.e || e != api.OK && !isSame(got, api.House{}) {
			t.Error("Shut", x, got, e)
		}
		if e == api.OK {
			h.Doors[1].Shut = x.want
			sameHouse(t, "Shut", got, h)
		}
	}
	if h, e := house.Shut(behind(api.Door{}), 2, span(5, 4)); e != api.ErrArg || !isSame(h, api.House{}) {
		t.Error("Shut", h, e)
	}
}
