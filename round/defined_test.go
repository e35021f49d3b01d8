package round_test

import (
	"math/bits"
	"slices"

	"patrol/api"
	"patrol/clock"
	"patrol/dial"
	"patrol/house"
	"patrol/order"
)

// definedPositions looks at each position of the needle; false if there are none, or not all between the first and the last one.
func definedPositions(c api.Case, m api.Mark) (api.Span, bool) {
	var l []int
	for pos := c.Session.Zero.Lo; pos <= c.Session.End.Hi; pos++ {
		// An angle that is not one of an arc is nearest to one of its ends.
		ends := min(dial.Apart(pos, m.At.From), dial.Apart(pos, m.At.From+m.At.Len))
		if dial.Has(m.At, pos) || ends <= c.Ink.Slip {
			l = append(l, pos)
		}
	}
	if len(l) == 0 || l[len(l)-1]-l[0] != len(l)-1 {
		return api.Span{}, false
	}
	return span(l[0], l[len(l)-1]), true
}

// definedShows is the definition of a mark that shows a set of pins.
func definedShows(m api.Mark, set int, i api.Ink) bool {
	return bits.OnesCount(uint(set&m.Blank)) <= i.Faint && bits.OnesCount(uint(m.Seen&^set)) <= i.Stray
}

// definedReads returns the reads of a mark as the chapter defines them.
func definedReads(c api.Case, mark int) [][]int {
	m := c.Marks[mark]
	key := func(station int) api.Key {
		return c.Keys[slices.IndexFunc(c.Keys, func(k api.Key) bool { return k.ID == c.Stations[station].Key })]
	}
	var ones, twos [][]int
	for a := range c.Stations {
		for b := range c.Stations {
			k, l := key(a), key(b)
			switch {
			case k.Track != m.Track || l.Track != m.Track || !definedShows(m, k.Pattern|l.Pattern, c.Ink):
			case a == b:
				ones = append(ones, []int{a})
			default:
				twos = append(twos, []int{a, b})
			}
		}
	}
	return append(ones, twos...)
}

// definedSequences returns all sequences as the chapter defines them.
func definedSequences(c api.Case) [][]api.Read {
	l := [][]api.Read{nil}
	for mark := range c.Marks {
		var longer [][]api.Read
		for _, begun := range l {
			for _, read := range definedReads(c, mark) {
				x := slices.Clone(begun)
				for _, station := range read {
					x = append(x, api.Read{Mark: mark, Station: station})
				}
				longer = append(longer, x)
			}
		}
		l = longer
	}
	return l
}

// definedRecord returns the record of a sequence as the chapter defines it.
func definedRecord(c api.Case, l []api.Read) api.Record {
	r := api.Record{Session: c.Session}
	for k, x := range l {
		pos, _ := definedPositions(c, c.Marks[x.Mark])
		r.Strikes = append(r.Strikes, api.Strike{ID: k + 1, Pos: pos})
	}
	return r
}

// namesOf returns the names of the stations of visits.
func namesOf(c api.Case, l []api.Read) []string {
	var names []string
	for _, x := range l {
		names = append(names, c.Stations[x.Station].Name)
	}
	return names
}

// visitsOf returns the visits of a reading.
func visitsOf(c api.Case, r api.Reading) []api.Visit {
	var l []api.Visit
	for k, name := range namesOf(c, r.Reads) {
		l = append(l, api.Visit{Name: name, Time: r.Times[k]})
	}
	return l
}

// fulfils reports whether a reading fulfils the order.
func fulfils(c api.Case, r api.Reading) bool {
	is, e := order.Matches(c.Order, visitsOf(c, r))
	return is && e == api.OK
}

// can returns a function that says what house.Can does, and asks it once for everything.
func can(h api.House) func(a, ta, b, tb int) bool {
	known := map[[4]int]bool{}
	return func(a, ta, b, tb int) bool {
		key := [4]int{a, ta, b, tb}
		is, found := known[key]
		if !found {
			is, _ = house.Can(h, a, ta, b, tb)
			known[key] = is
		}
		return is
	}
}

// definedTimings tries all times that the clock allows for each visit of a sequence.
func definedTimings(c api.Case, l []api.Read, can func(a, ta, b, tb int) bool) [][]int {
	spans, e := clock.Spans(definedRecord(c, l))
	tight, _ := clock.Tight(definedRecord(c, l))
	if e != api.OK {
		return nil
	}
	var all [][]int
	var try func(times []int, room, since int)
	try = func(times []int, room, since int) {
		v := len(times)
		if v == len(l) {
			all = append(all, slices.Clone(times))
			return
		}
		here := c.Stations[l[v].Station].Room
	times:
		for at := spans[v].Lo; at <= spans[v].Hi; at++ {
			for u, before := range times {
				if at-before > tight[3+u][3+v] || before-at > tight[3+v][3+u] {
					continue times
				}
			}
			if can(room, since, here, at) {
				try(append(times, at), here, at)
			}
		}
	}
	try(nil, c.Start, c.Since)
	return all
}

// readings returns all readings of a case.
func readings(c api.Case) []api.Reading {
	var all []api.Reading
	can := can(c.House)
	for _, l := range definedSequences(c) {
		for _, times := range definedTimings(c, l, can) {
			all = append(all, api.Reading{Reads: l, Times: times})
		}
	}
	return all
}

// of returns the readings of a sequence.
func of(all []api.Reading, l []api.Read) []api.Reading {
	var some []api.Reading
	for _, r := range all {
		if slices.Equal(r.Reads, l) {
			some = append(some, r)
		}
	}
	return some
}

// hasStation reports whether a visit of a list is to a station.
func hasStation(l []api.Read, station int) bool {
	for _, x := range l {
		if x.Station == station {
			return true
		}
	}
	return false
}

// definedVerdict returns the kind of the verdict, by all readings.
func definedVerdict(c api.Case, all []api.Reading) int {
	if len(all) == 0 {
		return api.VeVoid
	}
	first := fulfils(c, all[0])
	for _, r := range all {
		if fulfils(c, r) != first {
			return api.VeDoubtful
		}
	}
	if first {
		return api.VeCertified
	}
	return api.VeFailed
}

// definedAccepts is the definition of a refutation that is accepted.
func definedAccepts(c api.Case, l []api.Read, p []api.Raise) bool {
	r := definedRecord(c, l)
	spans, e := clock.Spans(r)
	if e == api.ErrClash {
		return len(p) == 0
	}
	if len(p) > api.MaxRaises {
		return false
	}
	tight, _ := clock.Tight(r)
	room := func(v int) int { return c.Stations[l[v].Station].Room }
	bound := make([]int, len(l))
	for _, x := range p {
		if x.Visit < 0 || x.Visit >= len(l) {
			return false
		}
		most := 0
		switch {
		case x.By == -1:
			most = spans[x.Visit].Lo
		case x.By == -2 && x.Visit == 0:
			times, _ := house.Earliest(c.House, c.Start, c.Since)
			most = times[room(0)]
		case x.By == -3 && x.Visit > 0 && bound[x.Visit-1] <= api.MaxTime:
			times, _ := house.Earliest(c.House, room(x.Visit-1), bound[x.Visit-1])
			most = times[room(x.Visit)]
		case x.By >= 0 && x.By < len(l) && x.By != x.Visit:
			most = bound[x.By] - tight[3+x.Visit][3+x.By]
		default:
			return false
		}
		if x.To > most {
			return false
		}
		bound[x.Visit] = max(bound[x.Visit], x.To)
	}
	for v, x := range bound {
		if x > spans[v].Hi {
			return true
		}
	}
	return false
}
