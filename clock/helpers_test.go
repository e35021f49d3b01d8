package clock_test

import (
	"maps"
	"slices"
	"testing"

	"patrol/api"
	"patrol/clock"
)

const (
	maxInt = 1<<63 - 1
	minInt = -1 << 63
)

// chance is a generator of numbers that are the same in each run.
type chance uint64

// n returns a number from 0 to limit - 1.
func (c *chance) n(limit int) int {
	*c = *c*6364136223846793005 + 1442695040888963407
	return int(uint64(*c)>>33) % limit
}

// from returns a number from lo to hi.
func (c *chance) from(lo, hi int) int { return lo + c.n(hi-lo+1) }

func (c *chance) pick(l ...int) int { return l[c.n(len(l))] }

// around returns a span from lo to hi, or a part of it, that has x.
func (c *chance) around(x, by, lo, hi int) api.Span {
	return api.Span{Lo: max(lo, x-c.pick(0, 1, c.n(by+1))), Hi: min(hi, x+c.pick(0, 1, c.n(by+1)))}
}

func span(lo, hi int) api.Span { return api.Span{Lo: lo, Hi: hi} }

func strike(id, lo, hi int) api.Strike { return api.Strike{ID: id, Pos: span(lo, hi)} }

func sight(id, lo, hi int) api.Sight { return api.Sight{Strike: id, At: span(lo, hi)} }

// exampleSession is s of the chapter's examples, exampleRecord is r.
func exampleSession() api.Session {
	return api.Session{ID: 1, In: span(1000, 1010), Out: span(5000, 6000), Zero: span(0, 9), End: span(4000, 4020), Rate: span(api.Million, api.Million)}
}

func exampleRecord(sights ...api.Sight) api.Record {
	return api.Record{Session: exampleSession(), Strikes: []api.Strike{strike(1, 1000, 1000), strike(2, 2000, 2005)}, Sights: sights}
}

// contradiction is a record that is not consistent.
func contradiction() api.Record { return exampleRecord(sight(1, 2100, 2200)) }

// copyOf returns a record with memory of its own.
func copyOf(r api.Record) api.Record {
	r.Session.Stops = slices.Clone(r.Session.Stops)
	r.Strikes = slices.Clone(r.Strikes)
	r.Sights = slices.Clone(r.Sights)
	return r
}

// withoutStrike returns a record without a strike and its sights, withoutSight one without a sight.
func withoutStrike(r api.Record, id int) api.Record {
	r = copyOf(r)
	r.Strikes = slices.DeleteFunc(r.Strikes, func(x api.Strike) bool { return x.ID == id })
	r.Sights = slices.DeleteFunc(r.Sights, func(x api.Sight) bool { return x.Strike == id })
	return r
}

func withoutSight(r api.Record, k int) api.Record {
	r = copyOf(r)
	r.Sights = slices.Delete(r.Sights, k, k+1)
	return r
}

// night is a true run, a record that it has left, and the seconds of the strikes.
type night struct {
	r  api.Record
	x  api.Run
	at []int
}

// needleAt is the definition of the exact place of a needle at a second that the run covers.
func needleAt(x api.Run, time int) int {
	micro, now := x.Micro, x.Start
	for _, l := range x.Legs {
		for range l.Secs {
			if now == time {
				return micro
			}
			micro += l.Rate
			now++
		}
	}
	return micro
}

func endOf(x api.Run) int {
	end := x.Start
	for _, l := range x.Legs {
		end += l.Secs
	}
	return end
}

// run returns a valid run with rates of a span that begins and ends with a leg in which the needle moves, and what its needle stood for at each position.
func (c *chance) run(rate api.Span) (api.Run, map[int]int) {
	x := api.Run{Start: c.pick(0, c.n(1000), 500000000), Micro: c.pick(0, c.n(5*api.Million), c.n(10000*api.Million))}
	micro := x.Micro
	stood := map[int]int{}
	move := func(secs int) {
		x.Legs = append(x.Legs, api.Leg{Secs: secs, Rate: c.pick(rate.Lo, rate.Hi, c.from(rate.Lo, rate.Hi))})
		micro += secs * x.Legs[len(x.Legs)-1].Rate
	}
	move(c.from(3, 400))
	for range c.n(8) {
		pos := micro / api.Million
		if _, is := stood[pos]; c.n(2) == 0 && (is || len(stood) < api.MaxStops) {
			secs := c.pick(1, c.from(1, 500))
			x.Legs = append(x.Legs, api.Leg{Secs: secs})
			stood[pos] += secs
		} else {
			move(c.pick(1, c.from(1, 900)))
		}
	}
	move(c.from(3, 400))
	return x, stood
}

// session returns a session that a run plays.
func (c *chance) session(x api.Run, stood map[int]int, rate api.Span) api.Session {
	first, last, end := x.Micro/api.Million, needleAt(x, endOf(x))/api.Million, endOf(x)
	s := api.Session{ID: c.from(1, api.MaxID), In: c.around(x.Start, 50, 0, api.MaxTime), Out: c.around(end, 50, 0, api.MaxTime), Rate: rate}
	low, high := last, first
	for pos := first; pos <= last; pos++ {
		secs, is := stood[pos]
		if is {
			low, high = min(low, pos), pos
			s.Stops = append(s.Stops, api.Stop{At: pos, Secs: c.around(secs, 40, 0, api.MaxStop)})
		}
	}
	s.Zero = c.around(first, 20, 0, max(first, low-1))
	s.End = c.around(last, 20, min(last, high+1), api.MaxPos)
	if len(s.Stops) == 0 && s.Zero.Hi+1 < s.End.Lo && c.n(2) == 0 {
		// A stop at which the needle never stood.
		s.Stops = append(s.Stops, api.Stop{At: c.from(s.Zero.Hi+1, s.End.Lo-1), Secs: span(0, c.n(100))})
	}
	s.Zero.Lo, s.End.Hi = min(s.Zero.Lo, s.End.Lo), max(s.Zero.Hi, s.End.Hi)
	return s
}

// night returns a true night with some strikes and sights.
func (c *chance) night(strikes, sights int) night {
	rate := span(c.pick(api.MinRate, api.Million, 999000), c.pick(api.MaxRate, api.Million, 1001000))
	x, stood := c.run(rate)
	w := night{x: x, r: api.Record{Session: c.session(x, stood, rate)}}
	for range c.n(strikes + 1) {
		w.at = append(w.at, c.from(x.Start, endOf(x)))
	}
	slices.Sort(w.at)
	ids := c.from(1, 1000)
	for k, at := range w.at {
		pos := needleAt(x, at) / api.Million
		id := ids + (k*7)%13 // different ones, in no order
		w.r.Strikes = append(w.r.Strikes, api.Strike{ID: id, Pos: c.around(pos, 30, w.r.Session.Zero.Lo, w.r.Session.End.Hi)})
	}
	for range c.n(sights + 1) {
		if len(w.at) > 0 {
			k := c.n(len(w.at))
			w.r.Sights = append(w.r.Sights, api.Sight{Strike: w.r.Strikes[k].ID, At: c.around(w.at[k], 60, 0, api.MaxTime)})
		}
	}
	return w
}

// record returns a valid record, which is often not consistent.
func (c *chance) record(strikes, sights int) api.Record {
	r := c.night(strikes, sights).r
	move := func(x *api.Span, by, lo, hi int) {
		by = c.from(-by, by)
		if c.n(3) == 0 && lo <= x.Lo+by && x.Hi+by <= hi {
			x.Lo, x.Hi = x.Lo+by, x.Hi+by
		}
	}
	for k := range r.Strikes {
		move(&r.Strikes[k].Pos, 20, r.Session.Zero.Lo, r.Session.End.Hi)
	}
	for k := range r.Sights {
		move(&r.Sights[k].At, 80, 0, api.MaxTime)
	}
	move(&r.Session.In, 40, 0, api.MaxTime)
	move(&r.Session.Out, 40, 0, api.MaxTime)
	return r
}

// fullRecord returns a consistent record with as many strikes, sights and stops as there may be, and no position marked twice.
func fullRecord() api.Record {
	r := api.Record{Session: api.Session{ID: api.MaxID, In: span(0, 5000), Out: span(40000, 90000), Zero: span(0, 100), End: span(40000, api.MaxPos), Rate: span(api.MinRate, api.MaxRate)}}
	for k := range api.MaxStops {
		r.Session.Stops = append(r.Session.Stops, api.Stop{At: 101 + 13299*k, Secs: span(k, 1000*k)})
	}
	r.Session.Stops[api.MaxStops-1].At = 39999
	for k := range api.MaxStrikes {
		r.Strikes = append(r.Strikes, strike(api.MaxStrikes-k, 1000+3000*k, 2000+3000*k))
		r.Sights = append(r.Sights, sight(api.MaxStrikes-k, 500, 60000))
	}
	return r
}

// definedNodes returns the nodes as the chapter defines them, with further marked positions.
func definedNodes(r api.Record, further ...int) []api.Node {
	l := []api.Node{{Kind: api.NoOrigin}, {Kind: api.NoIn}, {Kind: api.NoOut}}
	at := map[int]bool{r.Session.Zero.Lo: true, r.Session.Zero.Hi + 1: true, r.Session.End.Lo: true, r.Session.End.Hi + 1: true}
	for k, x := range r.Strikes {
		l = append(l, api.Node{Kind: api.NoStrike, N: k})
		at[x.Pos.Lo], at[x.Pos.Hi+1] = true, true
	}
	for _, pos := range further {
		at[pos] = true
	}
	for _, pos := range slices.Sorted(maps.Keys(at)) {
		l = append(l, api.Node{Kind: api.NoArrive, N: pos})
	}
	return l
}

// definedTurn returns U and L of two positions.
func definedTurn(s api.Session, x, y int) (most, least int) {
	units := (y - x) * api.Million
	for most = units/s.Rate.Lo - 1; most*s.Rate.Lo < units; {
		most++
	}
	for least = units/s.Rate.Hi - 1; (least+1)*s.Rate.Hi <= units; {
		least++
	}
	for _, stop := range s.Stops {
		if x <= stop.At && stop.At < y {
			most += stop.Secs.Hi
			least += stop.Secs.Lo
		}
	}
	return most, least
}

// definedLinks returns the links as the chapter defines them, with further marked positions.
func definedLinks(r api.Record, further ...int) []api.Link {
	s := r.Session
	nodes := definedNodes(r, further...)
	arrive := func(pos int) int { return slices.Index(nodes, api.Node{Kind: api.NoArrive, N: pos}) }
	l := []api.Link{{From: 0, To: 1, Most: s.In.Hi}, {From: 1, To: 0, Most: -s.In.Lo}, {From: 0, To: 2, Most: s.Out.Hi}, {From: 2, To: 0, Most: -s.Out.Lo}}
	for _, x := range r.Sights {
		for k, y := range r.Strikes {
			if y.ID == x.Strike {
				l = append(l, api.Link{From: 0, To: 3 + k, Most: x.At.Hi}, api.Link{From: 3 + k, To: 0, Most: -x.At.Lo})
			}
		}
	}
	events, where := []int{1}, []api.Span{s.Zero}
	for k, x := range r.Strikes {
		events, where = append(events, 3+k), append(where, x.Pos)
	}
	events, where = append(events, 2), append(where, s.End)
	for k := range len(events) - 1 {
		l = append(l, api.Link{From: events[k+1], To: events[k]})
	}
	for k, event := range events {
		l = append(l, api.Link{From: event, To: arrive(where[k].Lo)}, api.Link{From: arrive(where[k].Hi + 1), To: event})
	}
	for u, x := range nodes {
		for v, y := range nodes {
			if x.Kind == api.NoArrive && y.Kind == api.NoArrive && x.N < y.N {
				most, least := definedTurn(s, x.N, y.N)
				l = append(l, api.Link{From: u, To: v, Most: most}, api.Link{From: v, To: u, Most: -least})
			}
		}
	}
	return l
}

// leastWalks returns the least length of a walk from a node to each of n nodes; false if there is none, as walks become ever shorter.
func leastWalks(links []api.Link, n, from int) ([]int, bool) {
	row := slices.Repeat([]int{1 << 50}, n)
	row[from] = 0
	changed := true
	for round := 0; changed; round++ {
		if round > n {
			return nil, false
		}
		changed = false
		for _, l := range links {
			if row[l.From] < 1<<49 && row[l.From]+l.Most < row[l.To] {
				row[l.To] = row[l.From] + l.Most
				changed = true
			}
		}
	}
	return row, true
}

// definedBounds returns the bound from each node to each other one; false if the record is not consistent.
func definedBounds(r api.Record, further ...int) ([][]int, bool) {
	n, links := len(definedNodes(r, further...)), definedLinks(r, further...)
	var rows [][]int
	for from := range n {
		row, is := leastWalks(links, n, from)
		if !is {
			return nil, false
		}
		rows = append(rows, row)
	}
	return rows, true
}

// hasTiming reports whether a record is consistent.
func hasTiming(r api.Record) bool {
	_, is := leastWalks(definedLinks(r), len(definedNodes(r)), 0)
	return is
}

// timesIn returns the span of the times of a node.
func timesIn(bounds [][]int, node int) api.Span { return span(-bounds[node][0], bounds[0][node]) }

func same[T comparable](t *testing.T, what string, got, want []T) {
	t.Helper()
	if !slices.Equal(got, want) {
		t.Errorf("%s: %v, not %v", what, got, want)
	}
}

func sameRecord(t *testing.T, what string, got, want api.Record) {
	t.Helper()
	same(t, what+": strikes", got.Strikes, want.Strikes)
	same(t, what+": sights", got.Sights, want.Sights)
	same(t, what+": stops", got.Session.Stops, want.Session.Stops)
	a, b := got.Session, want.Session
	if a.ID != b.ID || a.In != b.In || a.Out != b.Out || a.Zero != b.Zero || a.End != b.End || a.Rate != b.Rate {
		t.Errorf("%s: %v, not %v", what, a, b)
	}
}

// outcome is what a call returned: its error, and whether all other results were zero.
type outcome struct {
	e    api.Errno
	zero bool
}

// calls returns the outcome of each function with a record; other arguments have the errors that these functions look for behind that of Check if bad is true.
func calls(r api.Record, bad bool) map[string]outcome {
	index, pos, walk := 0, r.Session.Zero.Lo, []int{0}
	strikes, times := make([]int, len(r.Strikes)), []int{0}
	if bad {
		index, pos, walk, strikes = -1, -1, make([]int, 61), make([]int, len(r.Strikes)+1)
	}
	m := map[string]outcome{}
	put := func(name string, e api.Errno, zero bool) { m[name] = outcome{e, zero} }
	put("Check", clock.Check(r), true)
	nodes, e := clock.Nodes(r)
	put("Nodes", e, len(nodes) == 0)
	links, e := clock.Links(r)
	put("Links", e, len(links) == 0)
	rows, e := clock.Tight(r)
	put("Tight", e, len(rows) == 0)
	spans, e := clock.Spans(r)
	put("Spans", e, len(spans) == 0)
	x, e := clock.Inserted(r)
	put("Inserted", e, x == api.Span{})
	x, e = clock.Removed(r)
	put("Removed", e, x == api.Span{})
	x, e = clock.Between(r, index, index)
	put("Between", e, x == api.Span{})
	x, e = clock.When(r, pos)
	put("When", e, x == api.Span{})
	l, e := clock.First(r)
	put("First", e, len(l) == 0)
	l, e = clock.Last(r)
	put("Last", e, len(l) == 0)
	put("CheckTimes", clock.CheckTimes(r, times), true)
	is, e := clock.Fits(r, strikes)
	put("Fits", e, !is)
	l, e = clock.Path(r, index, 1)
	put("Path", e, len(l) == 0)
	n, e := clock.CheckPath(r, index, 1, walk)
	put("CheckPath", e, n == 0)
	l, is, e = clock.Clash(r)
	put("Clash", e, len(l) == 0 && !is)
	put("CheckClash", clock.CheckClash(r, walk), true)
	l, o, e := clock.Suspects(r)
	put("Suspects", e, len(l) == 0 && len(o) == 0)
	l, e = clock.Needed(r, index)
	put("Needed", e, len(l) == 0)
	less, e := clock.Without(r, []int{1})
	put("Without", e, less.Session.ID == 0 && len(less.Strikes) == 0 && len(less.Sights) == 0 && len(less.Session.Stops) == 0 && less.Session.Rate == api.Span{})
	return m
}
