package round

import (
	"iter"
	"slices"

	"patrol/api"
	"patrol/clock"
	"patrol/house"
)

// isTiming reports whether times, one for each visit, are a timing of a sequence.
func (t trial) isTiming(q sequence, times []int) bool {
	fits, e := clock.Fits(record(t.Case, q.reads), times)
	if e != api.OK || !fits {
		return false
	}
	room, since := t.Start, t.Since
	for visit, at := range times {
		if can, _ := house.Can(t.House, room, since, q.rooms[visit], at); !can {
			return false
		}
		room, since = q.rooms[visit], at
	}
	return true
}

// CheckReading checks a reading.
func CheckReading(c api.Case, r api.Reading) api.Errno {
	t, q, e := openFor(c, r.Reads)
	if e != api.OK {
		return e
	}
	if len(r.Times) != len(r.Reads) {
		return api.ErrArg
	}
	if !t.isTiming(q, r.Times) {
		return api.ErrProof
	}
	return api.OK
}

// possible yields the sequences that have a timing, each with its least times.
func (t trial) possible() iter.Seq2[sequence, []int] {
	return func(yield func(sequence, []int) bool) {
		for _, q := range t.sequences {
			if times, is := t.first(q); is && !yield(q, times) {
				return
			}
		}
	}
}

// keep returns the constraint that a link of a demand is kept.
func keep(l api.Link) constraint { return byGap{l.From, l.To, l.Most} }

// violate returns the constraint that a link of a demand is broken.
func violate(l api.Link) constraint { return byGap{l.To, l.From, -l.Most - 1} }

// kept returns times of a sequence that keep a demand; false if there are none.
func (t trial) kept(q sequence, d api.Demand) ([]int, bool) {
	var asked []constraint
	for _, l := range d.Links {
		asked = append(asked, keep(l))
	}
	return t.system(q).with(asked...).solve()
}

// broken returns times of a sequence that break all demands; false if there are none. It picks a link to break of one demand after the other. (A demand without links stands ahead of the others, so that the search ends at once.)
func (t trial) broken(q sequence) ([]int, bool) {
	s := t.system(q)
	var picked []int
search:
	for {
		var asked []constraint
		for k, link := range picked {
			asked = append(asked, violate(q.demands[k].Links[link]))
		}
		times, is := s.with(asked...).solve()
		if is && len(picked) == len(q.demands) {
			return times, true
		}
		if is {
			picked = append(picked, -1)
		}
		for last := len(picked) - 1; last >= 0; last-- {
			picked = picked[:last+1]
			picked[last]++
			if picked[last] < len(q.demands[last].Links) {
				continue search
			}
		}
		return nil, false
	}
}

// some returns a reading that fulfils the order; false if there is none.
func (t trial) some() (api.Reading, bool) {
	for q := range t.possible() {
		for _, d := range q.demands {
			if times, is := t.kept(q, d); is {
				return api.Reading{Reads: q.reads, Times: times}, true
			}
		}
	}
	return api.Reading{}, false
}

// other returns a reading that does not fulfil the order; false if there is none.
func (t trial) other() (api.Reading, bool) {
	for q := range t.possible() {
		if times, is := t.broken(q); is {
			return api.Reading{Reads: q.reads, Times: times}, true
		}
	}
	return api.Reading{}, false
}

// reading returns the reading of a case that a function finds; ErrNone if it finds none.
func reading(c api.Case, find func(t trial) (api.Reading, bool)) (api.Reading, api.Errno) {
	t, e := open(c, true)
	if e != api.OK {
		return api.Reading{}, e
	}
	r, is := find(t)
	if !is {
		return api.Reading{}, api.ErrNone
	}
	return r, api.OK
}

// Some returns a reading that fulfils the order.
func Some(c api.Case) (api.Reading, api.Errno) { return reading(c, trial.some) }

// Other returns a reading that does not fulfil the order.
func Other(c api.Case) (api.Reading, api.Errno) { return reading(c, trial.other) }

// Certify returns the kind of the verdict.
func Certify(c api.Case) (int, api.Errno) {
	t, e := open(c, true)
	if e != api.OK {
		return 0, e
	}
	_, right := t.some()
	_, wrong := t.other()
	switch {
	case right && wrong:
		return api.VeDoubtful, api.OK
	case right:
		return api.VeCertified, api.OK
	case wrong:
		return api.VeFailed, api.OK
	}
	return api.VeVoid, api.OK
}

// has reports whether a visit of a sequence is to a station.
func (q sequence) has(station int) bool {
	return slices.ContainsFunc(q.reads, func(x api.Read) bool { return x.Station == station })
}

// stations returns the stations of a case such that all readings have them, or have them not.
func stations(c api.Case, had bool) ([]int, api.Errno) {
	t, e := open(c, true)
	if e != api.OK {
		return nil, e
	}
	var out [api.MaxStations]bool
	for q := range t.possible() {
		for station := range c.Stations {
			out[station] = out[station] || q.has(station) != had
		}
	}
	var l []int
	for station := range c.Stations {
		if !out[station] {
			l = append(l, station)
		}
	}
	return l, api.OK
}

// Visited returns the stations that all readings have.
func Visited(c api.Case) ([]int, api.Errno) { return stations(c, true) }

// Missed returns the stations that no reading has.
func Missed(c api.Case) ([]int, api.Errno) { return stations(c, false) }

// When returns the least and the greatest time of a visit to a station.
func When(c api.Case, station int) (api.Span, api.Errno) {
	t, e := open(c, isIndex(station, len(c.Stations)))
	if e != api.OK {
		return api.Span{}, e
	}
	when := api.Span{Lo: api.Never, Hi: -1}
	for q, first := range t.possible() {
		last, _ := t.last(q)
		for visit, x := range q.reads {
			if x.Station == station {
				when = api.Span{Lo: min(when.Lo, first[visit]), Hi: max(when.Hi, last[visit])}
			}
		}
	}
	if when.Hi < 0 {
		return api.Span{}, api.ErrNone
	}
	return when, api.OK
}

// stays returns the system of the timings of a sequence, and of a time in a span at which one is in a room, ahead of the visit with an index; behind all visits, if this is their number.
func (t trial) stays(q sequence, visit, room int, x api.Span) system {
	stay := len(q.reads)
	asked := []constraint{byClock{stay, x.Lo}}
	if visit == 0 {
		asked = append(asked, t.startTo(stay, room))
	} else {
		asked = append(asked, t.walkTo(stay, room, visit-1, q.rooms[visit-1]))
	}
	if visit < stay {
		asked = append(asked, t.walkTo(visit, q.rooms[visit], stay, room))
	}
	s := t.system(q).with(asked...)
	s.most = append(s.most, x.Hi)
	return s
}

// Placed reports whether the watchman can have been in a room in a span.
func Placed(c api.Case, room int, s api.Span) (bool, api.Errno) {
	t, e := open(c, isIndex(room, len(c.House.Rooms)))
	if e != api.OK {
		return false, e
	}
	if s.Lo > s.Hi || !isTime(s.Lo) || !isTime(s.Hi) {
		return false, api.ErrArg
	}
	for q := range t.possible() {
		for visit := range len(q.reads) + 1 {
			if _, is := t.stays(q, visit, room, s).solve(); is {
				return true, api.OK
			}
		}
	}
	return false, api.OK
}
