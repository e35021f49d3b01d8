package round_test

import (
	"slices"
	"testing"

	"patrol/api"
	"patrol/clock"
	"patrol/house"
	"patrol/round"
)

// ends returns the least and the greatest times of some readings of one sequence.
func ends(l []api.Reading) (first, last []int) {
	first, last = slices.Clone(l[0].Times), slices.Clone(l[0].Times)
	for _, r := range l {
		for k, at := range r.Times {
			first[k], last[k] = min(first[k], at), max(last[k], at)
		}
	}
	return first, last
}

func TestP5_5(t *testing.T) {
	found, none := 0, 0
	tries(55, 150, func(_ *chance, x tried) {
		for _, l := range definedSequences(x.Case) {
			got, e := round.First(x.Case, l)
			late, f := round.Last(x.Case, l)
			some := of(x.all, l)
			if len(some) == 0 {
				none++
				if e != api.ErrNone || f != api.ErrNone || len(got) > 0 || len(late) > 0 {
					t.Error("First, Last", x.Case, l, got, late, e, f)
				}
				continue
			}
			found++
			first, last := ends(some)
			same(t, "First", got, e, first...)
			same(t, "Last", late, f, last...)
		}
	})
	if found < 100 || none < 100 {
		t.Error("not an even test:", found, none)
	}
}

// TestP5_5Empty looks at a case without marks, whose record is consistent, and at one whose record is not.
func TestP5_5Empty(t *testing.T) {
	c := with(func(c *api.Case) { c.Marks = nil })
	l, e := round.First(c, nil)
	same(t, "First", l, e)
	l, e = round.Last(c, []api.Read{})
	same(t, "Last", l, e)
	c.Session.Out = span(31000, 31000)
	if l, e := round.First(c, nil); e != api.ErrNone || len(l) > 0 {
		t.Error("First", l, e)
	}
	if l, e := round.Last(c, nil); e != api.ErrNone || len(l) > 0 {
		t.Error("Last", l, e)
	}
}

// TestP5_5Walks has walks that the clock alone would allow to be quicker.
func TestP5_5Walks(t *testing.T) {
	c := with(func(c *api.Case) {
		c.Ink.Slip = 20
		c.Marks[1].At = arc(1040, 0)
		c.Marks[2].At = arc(1080, 0)
	})
	l := reads(0, 0, 1, 1, 2, 2)
	first, e := round.First(c, l)
	same(t, "First", first, e, 30979, 31039, 31069)
	last, e := round.Last(c, l)
	same(t, "Last", last, e, 31001, 31061, 31101)
	c.Since = 30985 // the room Start is that of the first visit
	first, e = round.First(c, l)
	same(t, "First from Start", first, e, 30985, 31045, 31075)
	c.Start, c.Since = 1, 30930
	first, e = round.First(c, l)
	same(t, "First from the mill", first, e, 30990, 31050, 31080)
	last, e = round.Last(c, l)
	same(t, "Last from the mill", last, e, 31001, 31061, 31101)
	c.House.Doors[0].Shut = []api.Span{span(31046, 31058)}
	first, e = round.First(c, l)
	same(t, "First with a door that is shut", first, e, 30990, 31050, 31089)
	c.House.Doors[0].Shut = []api.Span{span(31058, 31099)}
	last, e = round.Last(c, l)
	same(t, "Last with a door that is shut", last, e, 30997, 31057, 31101)
}

// isReading is the definition of a reading of a sequence.
func isReading(c api.Case, r api.Reading) bool {
	fits, e := clock.Fits(definedRecord(c, r.Reads), r.Times)
	if e != api.OK || !fits {
		return false
	}
	room, since := c.Start, c.Since
	for k, x := range r.Reads {
		here := c.Stations[x.Station].Room
		if is, e := house.Can(c.House, room, since, here, r.Times[k]); e != api.OK || !is {
			return false
		}
		room, since = here, r.Times[k]
	}
	return true
}

func TestP5_6(t *testing.T) {
	yes, no := 0, 0
	tries(56, 200, func(c *chance, x tried) {
		for range 10 {
			if len(x.all) == 0 {
				return
			}
			r := x.all[c.n(len(x.all))]
			r.Times = slices.Clone(r.Times)
			if e := round.CheckReading(x.Case, r); e != api.OK || !isReading(x.Case, r) {
				t.Error("CheckReading", x.Case, r, e)
			}
			for k := range r.Times {
				r.Times[k] += c.pick(0, 1, -1, c.from(-3, 3))
			}
			is := slices.ContainsFunc(of(x.all, r.Reads), func(y api.Reading) bool { return slices.Equal(y.Times, r.Times) })
			if e := round.CheckReading(x.Case, r); is != (e == api.OK) || is != isReading(x.Case, r) || !is && e != api.ErrProof {
				t.Error("CheckReading", x.Case, r, is, e)
			}
			if is {
				yes++
			} else {
				no++
			}
		}
	})
	if yes < 200 || no < 200 {
		t.Error("not an even test:", yes, no)
	}
}

func TestP5_6Errors(t *testing.T) {
	c := exampleCase()
	right := api.Reading{Reads: reads(0, 0, 1, 1, 2, 2), Times: []int{31000, 31100, 31200}}
	for _, x := range []struct {
		what string
		r    api.Reading
		e    api.Errno
	}{
		{"a reading", right, api.OK},
		{"no sequence", api.Reading{Reads: reads(0, 0, 1, 1), Times: []int{31000, 31100}}, api.ErrArg},
		{"no reads", api.Reading{}, api.ErrArg},
		{"a wrong station", api.Reading{Reads: reads(0, 0, 1, 0, 2, 2), Times: right.Times}, api.ErrArg},
		{"no times", api.Reading{Reads: right.Reads}, api.ErrArg},
		{"too few times", api.Reading{Reads: right.Reads, Times: right.Times[:2]}, api.ErrArg},
		{"too many times", api.Reading{Reads: right.Reads, Times: []int{31000, 31100, 31200, 31200}}, api.ErrArg},
		{"a time that the clock rules out", api.Reading{Reads: right.Reads, Times: []int{31000, 31102, 31200}}, api.ErrProof},
		{"times whose gap the clock rules out", api.Reading{Reads: right.Reads, Times: []int{31001, 31099, 31199}}, api.ErrProof},
		{"no time", api.Reading{Reads: right.Reads, Times: []int{-1, 31100, 31200}}, api.ErrProof},
		{"no time", api.Reading{Reads: right.Reads, Times: []int{31000, 31100, api.Never}}, api.ErrProof},
		{"numbers that overflow", api.Reading{Reads: right.Reads, Times: []int{minInt, maxInt, maxInt}}, api.ErrProof},
		{"a way that does not lead back", api.Reading{Reads: reads(0, 0, 1, 2, 1, 1, 2, 2), Times: []int{31000, 31100, 31100, 31200}}, api.ErrProof},
		{"a way that takes longer", api.Reading{Reads: reads(0, 0, 1, 1, 1, 2, 2, 2), Times: []int{31000, 31100, 31100, 31200}}, api.ErrProof},
	} {
		if e := round.CheckReading(c, x.r); e != x.e {
			t.Error(x.what, x.r, e, x.e)
		}
	}
	c.Start, c.Since = 1, 30941
	if e := round.CheckReading(c, right); e != api.ErrProof {
		t.Error("too late from the room Start", e)
	}
	c.Since = 30940
	if e := round.CheckReading(c, right); e != api.OK {
		t.Error("just in time from the room Start", e)
	}
	c.Marks = nil
	if e := round.CheckReading(c, api.Reading{}); e != api.OK {
		t.Error("without marks", e)
	}
	c.Session.Out = span(31000, 31000)
	if e := round.CheckReading(c, api.Reading{}); e != api.ErrProof {
		t.Error("without marks, in a record that is not consistent", e)
	}
}

// found checks a reading that Some or Other returned.
func found(t *testing.T, what string, x tried, r api.Reading, e api.Errno, right bool) {
	t.Helper()
	exists := slices.ContainsFunc(x.all, func(y api.Reading) bool { return fulfils(x.Case, y) == right })
	switch {
	case !exists:
		if e != api.ErrNone || len(r.Reads) > 0 || len(r.Times) > 0 {
			t.Error(what, x.Case, textOf(x.Order), r, e)
		}
	case e != api.OK || !isReading(x.Case, r) || fulfils(x.Case, r) != right:
		t.Error(what, x.Case, textOf(x.Order), r, e)
	case !slices.ContainsFunc(definedSequences(x.Case), func(l []api.Read) bool { return slices.Equal(l, r.Reads) }):
		t.Error(what, "no sequence", x.Case, r)
	}
}

func TestP5_7(t *testing.T) {
	tries(57, 500, func(_ *chance, x tried) {
		r, e := round.Some(x.Case)
		found(t, "Some", x, r, e, true)
		r, e = round.Other(x.Case)
		found(t, "Other", x, r, e, false)
	})
}

// TestP5_7Demands has orders of which several demands have to be broken, or one of several kept.
func TestP5_7Demands(t *testing.T) {
	l := api.Case{Stations: exampleCase().Stations}
	for _, x := range []struct {
		source      string
		some, other bool
	}{
		{"gate then after 98 to 102 loft then loft", true, false},
		{"gate then after 99 to 101 loft then loft", true, false},
		{"gate then after 99 to 100 loft then loft", true, true},
		{"gate then after 100 to 101 loft then loft", true, true},
		{"gate then after 101 to 101 loft then after 101 to 101 loft", false, true},
		{"gate then after 99 to 99 loft then after 99 to 99 loft", false, true},
		{"(gate then after 99 to 100 loft then loft) or (gate then after 101 to 102 loft then loft)", true, false},
		{"(gate then after 0 to 99 loft then loft) or (gate then after 101 to 200 loft then loft)", true, true},
		{"(gate then after 0 to 99 loft then loft) or (gate then after 100 to 100 loft then loft) or (gate then loft then after 100 to 102 loft)", true, true},
		{"(gate then after 0 to 99 loft then loft) or (gate then after 100 to 100 loft then loft) or (gate then loft then after 99 to 102 loft)", true, false},
		// Only one of the links of the first demand can be broken together with those of the others.
		{"(gate then after 100 to 100 loft then loft) or (gate then after 101 to 400 loft then loft)", true, true},
		{"(gate then after 100 to 100 loft then loft) or (gate then loft then after 0 to 99 loft) or (gate then loft then after 0 to 100 loft)", true, true},
		{"(gate then after 100 to 100 loft then loft) or (gate then loft then after 0 to 99 loft) or (gate then loft then after 0 to 101 loft)", true, false},
		{"(gate then loft then loft) within 198", false, true},
		{"(gate then loft then loft) within 199", true, true},
		{"(gate then loft then loft) within 201", true, false},
		{"gate then loft then after 0 to 98 loft or gate then loft then after 102 to 300 loft", false, true},
	} {
		c := ordered(x.source)
		c.Marks[1].Seen = 64 // of the loft alone
		r, e := round.Some(c)
		o, f := round.Other(c)
		if (e == api.OK) != x.some || (f == api.OK) != x.other || x.some && !fulfils(c, r) || x.other && fulfils(c, o) {
			t.Error(x.source, namesOf(l, r.Reads), r.Times, e, o.Times, f)
		}
	}
}

func TestP5_8(t *testing.T) {
	var kinds [5]int
	tries(58, 400, func(_ *chance, x tried) {
		want := definedVerdict(x.Case, x.all)
		kinds[want]++
		if got, e := round.Certify(x.Case); got != want || e != api.OK {
			t.Error("Certify", x.Case, textOf(x.Order), got, e, want)
		}
	})
	if min(kinds[1], kinds[2], kinds[3], kinds[4]) < 25 {
		t.Error("not an even test:", kinds)
	}
}

// TestP5_8Empty looks at cases without marks, and with a mark that no key can have made.
func TestP5_8Empty(t *testing.T) {
	none := func(c *api.Case) { c.Marks = nil }
	verdict(t, "no marks", with(none), api.VeFailed)
	r, e := round.Other(with(none))
	if e != api.OK || len(r.Reads) > 0 || len(r.Times) > 0 {
		t.Error("Other without marks", r, e)
	}
	if _, e := round.Some(with(none)); e != api.ErrNone {
		t.Error("Some without marks", e)
	}
	verdict(t, "no marks, and a session that contradicts itself", with(none, func(c *api.Case) { c.Session.Out = span(31000, 31000) }), api.VeVoid)
	verdict(t, "a mark that no key can have made", with(func(c *api.Case) { c.Marks[1].Seen, c.Marks[1].Blank = 0, api.AllPins }), api.VeVoid)
}

func TestP5_9(t *testing.T) {
	visited, missed, neither := 0, 0, 0
	tries(59, 400, func(_ *chance, x tried) {
		var always, never []int
		for k := range x.Stations {
			with := 0
			for _, r := range x.all {
				if hasStation(r.Reads, k) {
					with++
				}
			}
			if with == len(x.all) {
				always = append(always, k)
				visited++
			}
			if with == 0 {
				never = append(never, k)
				missed++
			}
			if with > 0 && with < len(x.all) {
				neither++
			}
		}
		l, e := round.Visited(x.Case)
		same(t, "Visited", l, e, always...)
		l, e = round.Missed(x.Case)
		same(t, "Missed", l, e, never...)
	})
	if min(visited, missed, neither) < 40 {
		t.Error("not an even test:", visited, missed, neither)
	}
}

// TestP5_9Void checks that both are all stations if there are no readings.
func TestP5_9Void(t *testing.T) {
	c := with(func(c *api.Case) { c.Start = 2 })
	l, e := round.Visited(c)
	same(t, "Visited", l, e, 0, 1, 2)
	l, e = round.Missed(c)
	same(t, "Missed", l, e, 0, 1, 2)
	c.Stations, c.Marks = nil, nil
	l, e = round.Visited(c)
	same(t, "Visited without stations", l, e)
	l, e = round.Missed(c)
	same(t, "Missed without stations", l, e)
}

func TestP5_10(t *testing.T) {
	some, none := 0, 0
	tries(510, 300, func(_ *chance, x tried) {
		for k := range x.Stations {
			want := span(api.Never, -1)
			for _, r := range x.all {
				for n, y := range r.Reads {
					if y.Station == k {
						want = span(min(want.Lo, r.Times[n]), max(want.Hi, r.Times[n]))
					}
				}
			}
			got, e := round.When(x.Case, k)
			if want.Hi < 0 {
				none++
				if e != api.ErrNone || got != (api.Span{}) {
					t.Error("When", x.Case, k, got, e)
				}
				continue
			}
			some++
			if e != api.OK || got != want {
				t.Error("When", x.Case, k, got, e, want)
			}
		}
	})
	if min(some, none) < 150 {
		t.Error("not an even test:", some, none)
	}
}
