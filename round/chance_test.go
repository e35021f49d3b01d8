package round_test

import (
	"slices"
	"testing"

	"patrol/api"
	"patrol/round"
)

// noon is a time about which the doors of small houses open and close.
const noon = 30000

// spans returns an orderly list of at most n spans from lo on, of at most long seconds, and at most apart seconds behind each other.
func (c *chance) spans(n, lo, long, apart int) []api.Span {
	var l []api.Span
	for range c.n(n + 1) {
		lo += c.from(2, apart)
		hi := lo + c.n(long)
		l = append(l, span(lo, hi))
		lo = hi
	}
	return l
}

// house returns a small house whose doors open and close between noon + 60 and noon + 200.
func (c *chance) house() api.House {
	var h api.House
	for k := range c.from(2, 4) {
		h.Rooms = append(h.Rooms, api.Room{Name: string(rune('a' + k))})
	}
	for range c.from(1, 3) {
		d := api.Door{Hours: []api.Span{span(0, api.DaySecs-1)}, Shut: c.spans(6, noon+80, 15, 15)}
		if c.n(3) == 0 {
			d.Hours = c.spans(7, noon+70, 15, 8)
		}
		h.Doors = append(h.Doors, d)
	}
	for k := range c.from(2, 6) {
		x := api.Way{A: k % len(h.Rooms), Secs: c.from(1, 9), Back: c.pick(0, c.from(1, 9), c.from(1, 9)), Door: c.pick(-1, c.n(len(h.Doors)), c.n(len(h.Doors)))}
		x.B = (x.A + c.from(1, len(h.Rooms)-1)) % len(h.Rooms)
		h.Ways = append(h.Ways, x)
	}
	return h
}

// session returns a session in which the needle is near the position p at about noon + p.
func (c *chance) session() api.Session {
	s := api.Session{ID: c.from(1, api.MaxID), In: span(noon, noon+c.n(3)), Out: span(noon+250, noon+900), Zero: span(0, c.n(2)), End: span(250, 450), Rate: span(api.Million, api.Million)}
	if c.n(3) == 0 {
		s.Rate = span(api.Million-5000, api.Million+5000)
	}
	if c.n(3) == 0 {
		s.Stops = []api.Stop{{At: 100 + c.n(20), Secs: span(c.n(2), 1+c.n(3))}}
	}
	if c.n(20) == 0 {
		s.Out = span(noon+50, noon+90) // too early: no record of it is consistent
	}
	return s
}

// mark returns what is read of a strike of one or two of some keys at a position.
func (c *chance) mark(keys []api.Key, at int) api.Mark {
	k := keys[c.n(len(keys))]
	pattern := k.Pattern
	if l := keys[c.n(len(keys))]; l.Track == k.Track && c.n(3) == 0 {
		pattern |= l.Pattern
	}
	unclear := 0
	for range c.n(16) {
		unclear |= 1 << c.n(api.Pins)
	}
	if c.n(5) == 0 {
		unclear = api.AllPins
	}
	return api.Mark{At: arc(at, c.n(3)), Track: k.Track, Seen: pattern &^ unclear, Blank: api.AllPins &^ pattern &^ unclear}
}

// stations returns stations at which some keys hang, in the rooms of a house.
func (c *chance) stations(keys []api.Key, h api.House) []api.Station {
	var l []api.Station
	for k, x := range keys {
		l = append(l, api.Station{Name: string(rune('p' + k)), Key: x.ID, Room: c.pick(0, c.n(len(h.Rooms)), c.n(len(h.Rooms)))})
	}
	return l
}

// gap returns the gap of two visits, which often allows what lies between two marks.
func (c *chance) gap() api.Span {
	lo := c.pick(0, 0, c.n(8), c.n(16))
	return span(lo, c.pick(api.MaxGap, lo+c.n(4), lo+c.n(12)))
}

// follows returns an order of some names, one after the other, with gaps.
func (c *chance) follows(names []string) api.Order {
	o := api.Order{Kind: api.OrVisit, Names: names[:1]}
	for _, name := range names[1:] {
		visit := api.Order{Kind: api.OrVisit, Names: []string{name}}
		if c.n(3) == 0 {
			visit = api.Order{Kind: api.OrTimes, Lo: 1, Hi: 2, Gap: c.gap(), Kids: []api.Order{visit}}
		}
		o = api.Order{Kind: api.OrThen, Gap: c.gap(), Kids: []api.Order{o, visit}}
		if c.n(4) == 0 {
			o = api.Order{Kind: api.OrWithin, Most: c.n(25), Kids: []api.Order{o}}
		}
	}
	return o
}

// order returns an order that some sequences of a case can fulfil.
func (c *chance) order(x api.Case) api.Order {
	all := definedSequences(x)
	if len(all) == 0 || len(x.Marks) == 0 || c.n(8) == 0 {
		return c.follows([]string{"p", "q"}[:c.from(1, 2)])
	}
	o := c.follows(namesOf(x, all[c.n(len(all))]))
	for range c.pick(0, 1, 1, 2, min(4, len(all))) {
		kids := []api.Order{o, c.follows(namesOf(x, all[c.n(len(all))]))}
		if c.n(2) == 0 {
			slices.Reverse(kids)
		}
		if either := (api.Order{Kind: api.OrEither, Kids: kids}); textOf(either) != "" {
			o = either
		}
	}
	return o
}

// smallCase returns a valid and measured case whose readings can all be tried.
func (c *chance) smallCase() api.Case {
	for {
		x := api.Case{House: c.house(), Session: c.session(), Ink: api.Ink{Faint: c.pick(0, 0, 1), Stray: c.pick(0, 0, 1), Slip: c.n(2)}}
		for k := range c.from(2, 4) {
			x.Keys = append(x.Keys, api.Key{ID: 1 + 5*k, Track: c.pick(0, 0, 1), Pattern: 7 << (3 * k)})
		}
		x.Stations = c.stations(x.Keys, x.House)
		at := 100 + c.n(20)
		for range c.pick(0, 1, 2, 2, 3, 3, 3, 4) {
			x.Marks = append(x.Marks, c.mark(x.Keys, at))
			at += c.pick(0, c.n(6), c.n(20), 5+c.n(15), 5+c.n(15), 10, -c.n(3))
		}
		x.Start, x.Since = c.n(len(x.House.Rooms)), noon+c.pick(0, 60, 100, 110, 120)
		x.Order = c.order(x)
		longest := 0
		for _, l := range definedSequences(x) {
			longest = max(longest, len(l))
		}
		if longest <= 5 && round.Check(x) == api.OK && round.Measure(x) == api.OK {
			return x
		}
	}
}

// tried is a small case with all its readings.
type tried struct {
	api.Case
	all []api.Reading
}

// tries calls a function with n small cases.
func tries(seed chance, n int, f func(c *chance, x tried)) {
	for n > 0 {
		x := seed.smallCase()
		if all := readings(x); len(all) < 1500 {
			f(&seed, tried{x, all})
			n--
		}
	}
}

// TestSmallCases checks that the small cases are of all kinds.
func TestSmallCases(t *testing.T) {
	var kinds [5]int
	total, sequences := 0, 0
	tries(1, 400, func(_ *chance, x tried) {
		kinds[definedVerdict(x.Case, x.all)]++
		total += len(x.all)
		sequences += len(definedSequences(x.Case))
	})
	if min(kinds[1], kinds[2], kinds[3], kinds[4]) < 25 || total < 10000 || sequences < 800 {
		t.Error("not even cases:", kinds, total, sequences)
	}
}
