package round_test

import (
	"maps"
	"slices"
	"testing"

	"patrol/api"
	"patrol/clock"
	"patrol/dial"
	"patrol/house"
	"patrol/round"
)

func has(x api.Span, n int) bool { return x.Lo <= n && n <= x.Hi }

// around returns a span that has a number.
func (c *chance) around(n, by int) api.Span { return span(max(0, n-c.n(by+1)), n+c.n(by+1)) }

// run returns a run from noon on, whose needle stands at times, and a session that it plays.
func (c *chance) run() (api.Run, api.Session) {
	rate := span(c.pick(api.Million, api.Million-2000, 990000), c.pick(api.Million, api.Million+2000, 1010000))
	x := api.Run{Start: noon, Micro: c.n(5 * api.Million)}
	micro, end := x.Micro, x.Start
	stood := map[int]int{}
	leg := func(secs, rate int) {
		x.Legs = append(x.Legs, api.Leg{Secs: secs, Rate: rate})
		micro, end = micro+secs*rate, end+secs
	}
	move := func(secs int) { leg(secs, c.from(rate.Lo, rate.Hi)) }
	move(c.from(60, 120))
	for range c.n(4) {
		if secs := c.from(1, 5); c.n(3) == 0 {
			stood[micro/api.Million] += secs
			leg(secs, 0)
		}
		move(c.from(1, 40))
	}
	move(c.from(60, 120))
	last := micro / api.Million
	s := api.Session{ID: c.from(1, api.MaxID), In: c.around(x.Start, 2), Out: c.around(end, 3), Zero: c.around(x.Micro/api.Million, 1), End: c.around(last, 3), Rate: rate}
	for _, at := range slices.Sorted(maps.Keys(stood)) {
		s.Stops = append(s.Stops, api.Stop{At: at, Secs: c.around(stood[at], 1)})
	}
	return x, s
}

// visit is a visit of a true watchman.
type visit struct{ station, time, pos int }

// walk returns visits of a man who walks through the house of a case while a run covers the time.
func (c *chance) walk(x api.Case, run api.Run) []visit {
	var l []visit
	room, since := x.Start, x.Since
	for range c.n(7) {
		station := c.n(len(x.Stations))
		times, _ := house.Earliest(x.House, room, since)
		at := times[x.Stations[station].Room] + c.pick(0, 0, c.n(10), c.n(30))
		pos, e := clock.Needle(run, at)
		if e != api.OK {
			continue // too late, or never
		}
		l = append(l, visit{station, at, pos})
		room, since = x.Stations[station].Room, at
	}
	return l
}

// some returns a subset of a set of pins that has not more than most pins.
func (c *chance) some(set, most int) int {
	some := 0
	for range c.n(most + 1) {
		some |= 1 << c.n(api.Pins)
	}
	return some & set
}

// strike returns what is read of the mark of one strike, or of two, by the keys at the stations.
func (c *chance) strike(x api.Case, l ...visit) api.Mark {
	first, last := x.Keys[l[0].station], x.Keys[l[len(l)-1].station]
	set := first.Pattern | last.Pattern
	blow := api.Blow{Miss: c.some(set, x.Ink.Faint), Dirt: c.some(api.AllPins&^set, x.Ink.Stray), Shift: c.from(-x.Ink.Slip, x.Ink.Slip)}
	m, e := dial.Strike(first, l[0].pos, blow, x.Ink)
	if len(l) > 1 {
		m, e = dial.Twice(first, last, l[0].pos, l[1].pos-l[0].pos, blow, x.Ink)
	}
	if e != api.OK {
		panic("no strike")
	}
	unclear := c.some(api.AllPins, c.pick(0, 2, 6, 30))
	m, _ = dial.Blur(m, c.pick(0, 0, 1, 3), unclear)
	return m
}

// night returns a case of a true night, and what truly happened.
func (c *chance) night() (api.Case, api.Reading) {
	run, s := c.run()
	if e := clock.Plays(s, run); e != api.OK {
		panic("not a true night")
	}
	x := api.Case{House: c.house(), Session: s, Ink: api.Ink{Faint: c.n(2), Stray: c.n(2), Slip: c.n(4)}, Since: c.from(noon-50, noon+90)}
	x.Start = c.n(len(x.House.Rooms))
	for k := range c.from(2, 4) {
		x.Keys = append(x.Keys, api.Key{ID: 1 + k, Track: c.pick(0, 0, 0, 1), Pattern: 7 << (3 * k)})
	}
	x.Stations = c.stations(x.Keys, x.House)
	var r api.Reading
	l := c.walk(x, run)
	for len(l) > 0 {
		n := 1
		if len(l) > 1 && l[1].pos-l[0].pos <= api.Double && l[0].station != l[1].station && x.Keys[l[0].station].Track == x.Keys[l[1].station].Track && c.n(3) == 0 {
			n = 2
		}
		for _, v := range l[:n] {
			r.Reads = append(r.Reads, api.Read{Mark: len(x.Marks), Station: v.station})
			r.Times = append(r.Times, v.time)
		}
		x.Marks = append(x.Marks, c.strike(x, l[:n]...))
		l = l[n:]
	}
	x.Order = c.follows([]string{"p", "q"})
	if len(r.Reads) > 0 {
		x.Order = c.follows(namesOf(x, r.Reads))
	}
	return x, r
}

// TestP5_16 lets true watchmen walk: what they did is a reading.
func TestP5_16(t *testing.T) {
	c := chance(516)
	checked, doubles, stops := 0, 0, 0
	for range 500 {
		x, r := c.night()
		if round.Check(x) != api.OK || round.Measure(x) != api.OK {
			continue
		}
		checked++
		doubles += len(r.Reads) - len(x.Marks)
		stops += len(x.Session.Stops)
		if e := round.CheckReading(x, r); e != api.OK {
			t.Fatal("CheckReading", x, r, e)
		}
		kind, e := round.Certify(x)
		if e != api.OK || kind == api.VeVoid || kind == api.VeCertified && !fulfils(x, r) || kind == api.VeFailed && fulfils(x, r) {
			t.Error("Certify", x, r, kind, e)
		}
		missed, _ := round.Missed(x)
		visited, _ := round.Visited(x)
		for k := range x.Stations {
			if is := hasStation(r.Reads, k); is && slices.Contains(missed, k) || !is && slices.Contains(visited, k) {
				t.Error("Missed, Visited", x, r, k, missed, visited)
			}
		}
		first, e := round.First(x, r.Reads)
		last, f := round.Last(x, r.Reads)
		for k, y := range r.Reads {
			when, g := round.When(x, y.Station)
			if e != api.OK || f != api.OK || g != api.OK || !has(span(first[k], last[k]), r.Times[k]) || !has(when, r.Times[k]) {
				t.Error("First, Last, When", x, r, k, first, last, when)
			}
			if is, e := round.Placed(x, x.Stations[y.Station].Room, span(r.Times[k], r.Times[k])); !is || e != api.OK {
				t.Error("Placed", x, r, k, e)
			}
		}
		if p, e := round.Refute(x, r.Reads); e != api.ErrNone {
			t.Error("Refute", x, r, p, e)
		}
	}
	if checked < 200 || doubles < 30 || stops < 80 {
		t.Error("not an even test:", checked, doubles, stops)
	}
}

// TestP5_17 checks that all readings lie between First and Last, which are timings.
func TestP5_17(t *testing.T) {
	compared := 0
	tries(517, 80, func(_ *chance, x tried) {
		for _, l := range definedSequences(x.Case) {
			first, e := round.First(x.Case, l)
			last, f := round.Last(x.Case, l)
			if e != f {
				t.Error("First, Last", x.Case, l, e, f)
			}
			if e != api.OK {
				continue
			}
			for _, times := range [][]int{first, last} {
				if r := (api.Reading{Reads: l, Times: times}); round.CheckReading(x.Case, r) != api.OK || !isReading(x.Case, r) {
					t.Error("First, Last", x.Case, r)
				}
			}
			for _, r := range of(x.all, l) {
				compared++
				for k, at := range r.Times {
					if !has(span(first[k], last[k]), at) {
						t.Error("a time", x.Case, r, k, first, last)
					}
				}
			}
		}
	})
	if compared < 1000 {
		t.Error("not an even test:", compared)
	}
}

// TestP5_18 checks that there are proofs exactly where there is no timing, and no reading.
func TestP5_18(t *testing.T) {
	missed, timed := 0, 0
	tries(518, 60, func(c *chance, x tried) {
		for _, l := range definedSequences(x.Case) {
			p, e := round.Refute(x.Case, l)
			_, f := round.First(x.Case, l)
			if (e == api.OK) == (f == api.OK) || (e == api.OK) != (round.CheckRefute(x.Case, l, p) == api.OK) {
				t.Error("Refute", x.Case, l, p, e, f)
			}
			if f != api.OK {
				continue
			}
			timed++
			for range 5 {
				p = append(p, api.Raise{Visit: c.n(len(l) + 1), By: c.from(-3, len(l)), To: noon + c.n(200)})
				if e := round.CheckRefute(x.Case, l, p); e != api.ErrProof {
					t.Error("CheckRefute", x.Case, l, p, e)
				}
			}
		}
		none, _ := round.Missed(x.Case)
		for k := range x.Stations {
			p, e := round.Miss(x.Case, k)
			if is := slices.Contains(none, k); is != (e == api.OK) || is != (round.CheckMiss(x.Case, k, p) == api.OK && e == api.OK) {
				t.Error("Miss", x.Case, k, none, p, e)
			}
		}
		missed += len(none)
	})
	if min(missed, timed) < 50 {
		t.Error("not an even test:", missed, timed)
	}
}

// TestP5_19 compares verdicts with the readings that Some and Other find.
func TestP5_19(t *testing.T) {
	var kinds [5]int
	tries(519, 200, func(_ *chance, x tried) {
		_, e := round.Some(x.Case)
		_, f := round.Other(x.Case)
		want := api.VeVoid
		switch {
		case e == api.OK && f == api.OK:
			want = api.VeDoubtful
		case e == api.OK:
			want = api.VeCertified
		case f == api.OK:
			want = api.VeFailed
		}
		kinds[want]++
		if got, g := round.Certify(x.Case); got != want || g != api.OK {
			t.Error("Certify", x.Case, got, g, want)
		}
	})
	if min(kinds[1], kinds[2], kinds[3], kinds[4]) < 12 {
		t.Error("not an even test:", kinds)
	}
}

// narrowed checks that a case has no readings that another one has not, and that what is told of both agrees.
func narrowed(t *testing.T, what string, x tried, more api.Case) int {
	t.Helper()
	all := readings(more)
	known := map[string]bool{}
	key := func(r api.Reading) string {
		var b []byte
		for k, y := range r.Reads {
			b = append(b, byte(y.Mark), byte(y.Station), byte(r.Times[k]), byte(r.Times[k]>>8))
		}
		return string(b)
	}
	for _, r := range x.all {
		known[key(r)] = true
	}
	for k, r := range all {
		if !known[key(r)] || k%100 == 0 && round.CheckReading(x.Case, r) != api.OK {
			t.Fatal(what, "a reading", x.Case, more, r)
		}
	}
	before, _ := round.Missed(x.Case)
	missed, _ := round.Missed(more)
	for _, k := range before {
		if !slices.Contains(missed, k) {
			t.Error(what, "Missed", x.Case, more, before, missed)
		}
	}
	for k := range x.Stations {
		wide, e := round.When(x.Case, k)
		when, f := round.When(more, k)
		if f == api.OK && (e != api.OK || when.Lo < wide.Lo || when.Hi > wide.Hi) {
			t.Error(what, "When", x.Case, more, k, wide, when, e, f)
		}
	}
	kind, _ := round.Certify(x.Case)
	then, e := round.Certify(more)
	if e != api.OK || then != kind && then != api.VeVoid && kind != api.VeDoubtful {
		t.Error(what, "Certify", x.Case, more, kind, then, e)
	}
	return len(x.all) - len(all)
}

func TestP5_20(t *testing.T) {
	checked, fewer := 0, 0
	tries(520, 220, func(c *chance, x tried) {
		for k, m := range x.Marks {
			sharp, e := round.Sharper(x.Case, k, c.reread(m))
			if e != api.OK || round.Measure(sharp) != api.OK || len(x.all) > 500 {
				continue
			}
			checked++
			if narrowed(t, "Sharper", x, sharp) > 0 {
				fewer++
			}
		}
	})
	if checked < 100 || fewer < 20 {
		t.Error("not an even test:", checked, fewer)
	}
}

func TestP5_21(t *testing.T) {
	checked, fewer := 0, 0
	tries(521, 500, func(c *chance, x tried) {
		for k := range x.House.Doors {
			lo := noon + 90 + c.n(30)
			shut, e := house.Shut(x.House, k, span(lo, lo+c.n(80)))
			if e != api.OK || len(x.all) == 0 || len(x.all) > 500 {
				continue
			}
			more := x.Case
			more.House = shut
			checked++
			if narrowed(t, "Shut", x, more) > 0 {
				fewer++
			}
		}
	})
	if checked < 200 || fewer < 15 {
		t.Error("not an even test:", checked, fewer)
	}
}
