package round_test

import (
	"slices"
	"testing"

	"patrol/api"
	"patrol/dial"
	"patrol/round"
)

// replaced returns a case with another mark.
func replaced(c api.Case, mark int, m api.Mark) api.Case {
	c = copyOf(c)
	c.Marks[mark] = m
	return c
}

// dropped returns a case without some marks, by going through them from behind.
func dropped(c api.Case, marks ...int) api.Case {
	c = copyOf(c)
	for k := len(c.Marks) - 1; k >= 0; k-- {
		if slices.Contains(marks, k) {
			c.Marks = slices.Delete(c.Marks, k, k+1)
		}
	}
	return c
}

// reread returns what somebody else has read of a mark, which contradicts it at times.
func (c *chance) reread(m api.Mark) api.Mark {
	other := api.Mark{At: arc(dial.Angle(m.At.From+c.from(-1, 1)), c.n(4)), Track: c.pick(m.Track, m.Track, m.Track, c.n(2))}
	for range c.n(3) {
		pin := 1 << c.n(api.Pins)
		switch {
		case m.Seen&pin != 0:
			other.Seen |= pin
		case m.Blank&pin != 0:
			other.Blank |= pin
		case c.n(2) == 0:
			other.Seen |= pin &^ other.Blank
		default:
			other.Blank |= pin &^ other.Seen
		}
	}
	if pin := 1 << c.n(api.Pins); c.n(8) == 0 && (other.Seen|other.Blank)&pin == 0 {
		other.Seen |= pin
	}
	return other
}

func TestP5_13Sharper(t *testing.T) {
	good, bad := 0, 0
	tries(513, 300, func(c *chance, x tried) {
		for k, m := range x.Marks {
			other := c.reread(m)
			got, e := round.Sharper(x.Case, k, other)
			sharp, f := dial.Sharpen(m, other)
			if f != api.OK {
				bad++
				if e != f || !isSameCase(got, api.Case{}) {
					t.Error("Sharper", x.Case, k, other, e, f)
				}
				continue
			}
			good++
			sameCase(t, "Sharper", got, replaced(x.Case, k, sharp))
			if e != api.OK || round.Check(got) != api.OK {
				t.Error("Sharper", x.Case, k, other, e)
			}
		}
	})
	if min(good, bad) < 90 {
		t.Error("not an even test:", good, bad)
	}
}

func TestP5_13Errors(t *testing.T) {
	c := with(func(c *api.Case) {
		c.Session.Zero, c.Session.End = span(0, 100), span(40000, api.MaxPos)
		c.Marks[0].At = arc(0, api.Ring-1)
		c.Marks[1].At = arc(100, api.Ring-200)
	})
	if e := round.Check(c); e != api.OK {
		t.Fatal("Check", e)
	}
	at := func(x api.Arc) api.Mark { return api.Mark{At: x} }
	for _, x := range []struct {
		what string
		mark int
		m    api.Mark
		e    api.Errno
	}{
		{"nothing new", 0, at(arc(0, api.Ring-1)), api.OK},
		{"positions up to the last one", 0, at(arc(43000, 199)), api.OK},
		{"positions at both ends", 0, at(arc(43000, 200)), api.ErrRange},
		{"two arcs", 1, at(arc(43090, 220)), api.ErrRange},
		{"no common angle", 1, at(arc(50, 49)), api.ErrNone},
		{"one common angle", 1, at(arc(50, 50)), api.OK},
		{"another track", 1, api.Mark{At: arc(50, 0), Track: 1}, api.ErrClash},
		{"a pin that was blank", 1, api.Mark{At: arc(50, 0), Seen: 1}, api.ErrClash},
		{"a mark that is not valid", 1, api.Mark{At: arc(50, 0), Track: 1, Seen: 1, Blank: 1}, api.ErrArg},
		{"an arc that is not valid", 1, at(arc(-1, 0)), api.ErrArg},
		{"no track", 1, api.Mark{At: arc(150, 0), Track: -1}, api.ErrArg},
		{"no mark", 3, at(arc(150, 0)), api.ErrArg},
		{"no mark", -1, at(arc(150, 0)), api.ErrArg},
	} {
		got, e := round.Sharper(c, x.mark, x.m)
		if e != x.e || e != api.OK && !isSameCase(got, api.Case{}) {
			t.Error(x.what, x.m, e, x.e)
		}
	}
	c = with(func(c *api.Case) { c.Marks[2].At = arc(10900, 200) })
	for from, want := range map[int]api.Errno{11000: api.OK, 11001: api.ErrRange} {
		if _, e := round.Sharper(c, 2, at(arc(from, 20))); e != want {
			t.Error("positions up to the end of the session", from, e, want)
		}
	}
	c.Ink.Slip = 1
	if got, e := round.Sharper(c, 2, at(arc(11001, 20))); e != api.OK || got.Marks[2].At != arc(11001, 20) {
		t.Error("positions by the slip", e)
	}
}

func TestP5_13Without(t *testing.T) {
	c := exampleCase()
	for _, x := range []struct{ marks, gone []int }{
		{nil, nil}, {[]int{}, nil}, {[]int{1}, []int{1}}, {[]int{1, 1, 1}, []int{1}}, {[]int{2, 0, 2}, []int{0, 2}}, {[]int{0, 1, 2}, []int{0, 1, 2}},
		{[]int{-1, 3, maxInt, minInt}, nil}, {[]int{3, 2, -1}, []int{2}},
	} {
		got, e := round.Without(c, x.marks)
		sameCase(t, "Without", got, dropped(c, x.gone...))
		if e != api.OK {
			t.Error("Without", x.marks, e)
		}
	}
	tries(5130, 100, func(c *chance, x tried) {
		var marks []int
		for range c.n(5) {
			marks = append(marks, c.from(-1, len(x.Marks)))
		}
		got, e := round.Without(x.Case, marks)
		sameCase(t, "Without", got, dropped(x.Case, marks...))
		if e != api.OK || round.Check(got) != api.OK {
			t.Error("Without", x.Case, marks, e)
		}
	})
}

// definedRepair tries all sets of marks that are left out, the smallest ones first; false if none will do.
func definedRepair(c api.Case, most int) ([]int, bool) {
	n := len(c.Marks)
	l := [][]int{nil}
	for a := range n {
		l = append(l, []int{a})
	}
	for a := range n {
		for b := a + 1; b < n; b++ {
			l = append(l, []int{a, b})
		}
	}
	for _, marks := range l {
		x := dropped(c, marks...)
		if len(marks) > most || round.Measure(x) != api.OK {
			continue
		}
		if slices.ContainsFunc(readings(x), func(r api.Reading) bool { return fulfils(x, r) }) {
			return marks, true
		}
	}
	return nil, false
}

func TestP5_14(t *testing.T) {
	var numbers [4]int
	tries(514, 300, func(c *chance, x tried) {
		if n := len(x.Marks); n > 0 && c.n(3) > 0 {
			// An order for fewer marks, which some of them are in the way of.
			x.Order = c.order(dropped(x.Case, c.n(n), c.n(n)))
			if round.Measure(x.Case) != api.OK {
				return
			}
		}
		most := c.pick(0, 1, 2, 2)
		want, is := definedRepair(x.Case, most)
		got, e := round.Repair(x.Case, most)
		switch {
		case is:
			numbers[len(want)]++
			same(t, "Repair", got, e, want...)
		case e != api.ErrNone || len(got) > 0:
			t.Error("Repair", x.Case, most, got, e)
		default:
			numbers[3]++
		}
	})
	if min(numbers[0], numbers[3]) < 20 || min(numbers[1], numbers[2]) < 8 {
		t.Error("not an even test:", numbers)
	}
}

func TestP5_14Sets(t *testing.T) {
	for _, x := range []struct {
		source string
		most   int
		want   []int
	}{
		{"gate then mill then loft", 0, []int{}},
		{"gate then mill then loft", 2, []int{}},
		{"gate then loft", 0, nil},
		{"gate then loft", 1, []int{1}},
		{"gate then loft", 2, []int{1}},
		{"loft", 1, nil},
		{"loft", 2, []int{0, 1}},
		{"mill", 2, []int{0, 2}},
		{"gate", 2, []int{1, 2}},
		{"gate or loft or mill", 2, []int{0, 1}},
		{"gate then loft or mill then loft", 2, []int{0}},
		{"gate or mill then loft", 2, []int{0}},
		{"gate or gate then mill", 2, []int{2}},
	} {
		repaired(t, x.source, ordered(x.source), x.most, x.want)
	}
	c := exampleCase()
	c.Marks = nil
	repaired(t, "no marks", c, 2, nil)
	for _, most := range []int{-1, 3, maxInt, minInt} {
		if l, e := round.Repair(exampleCase(), most); e != api.ErrArg || len(l) > 0 {
			t.Error("Repair with", most, l, e)
		}
	}
}

// TestP5_14Measured leaves out a mark that no key can have made: the other marks have more sequences than can be judged, until one more is left out.
func TestP5_14Measured(t *testing.T) {
	c := exampleCase()
	c.Marks = nil
	for k := range 6 {
		c.Marks = append(c.Marks, api.Mark{At: arc(1000+200*k, 0), Seen: 63, Blank: 4032}) // of the gate and the mill
	}
	c.Marks = append(c.Marks, api.Mark{At: arc(2200, 0), Blank: api.AllPins})
	c.House.Ways[0] = api.Way{A: 0, B: 1, Secs: 1, Back: 1, Door: -1}
	c.Order = sourced("times 1 to 6 each(gate, mill)")
	if l, e := round.Sequences(c); e != api.OK || len(l) > 0 {
		t.Fatal("Sequences", l, e)
	}
	if e := round.Measure(dropped(c, 6)); e != api.ErrLimit {
		t.Fatal("Measure", e)
	}
	repaired(t, "one mark", c, 1, nil)
	repaired(t, "two marks", c, 2, []int{0, 6})
}

// definedPlaced looks at each time of a span in each reading.
func definedPlaced(x tried, can func(a, ta, b, tb int) bool, room int, s api.Span) bool {
	for _, r := range x.all {
		for at := s.Lo; at <= s.Hi; at++ {
			here, since := x.Start, x.Since
			for k, y := range r.Reads {
				there := x.Stations[y.Station].Room
				if can(here, since, room, at) && can(room, at, there, r.Times[k]) {
					return true
				}
				here, since = there, r.Times[k]
			}
			if can(here, since, room, at) {
				return true
			}
		}
	}
	return false
}

func TestP5_15(t *testing.T) {
	yes, no := 0, 0
	tries(515, 250, func(c *chance, x tried) {
		can := can(x.House)
		for range 6 {
			lo := noon + 60 + c.n(110)
			s := span(lo, lo+c.pick(0, 1, c.n(12)))
			room := c.n(len(x.House.Rooms))
			want := definedPlaced(x, can, room, s)
			if got, e := round.Placed(x.Case, room, s); got != want || e != api.OK {
				t.Error("Placed", x.Case, room, s, got, e, want)
			}
			if len(x.all) == 0 {
				continue
			}
			if want {
				yes++
			} else {
				no++
			}
		}
	})
	if min(yes, no) < 120 {
		t.Error("not an even test:", yes, no)
	}
}

// TestP5_15Spans places the watchman of the example, sharpened: he was at the gate, in the mill, and in the loft.
func TestP5_15Spans(t *testing.T) {
	c, _ := round.Sharper(exampleCase(), 1, seen())
	void := with(func(c *api.Case) { c.Start = 2 })
	empty := with(func(c *api.Case) { c.Marks = nil })
	clash := with(func(c *api.Case) { c.Marks, c.Session.Out = nil, span(31000, 31000) })
	for _, x := range []struct {
		what string
		c    api.Case
		room int
		s    api.Span
		want bool
	}{
		{"ahead of Since", c, 0, span(0, 29999), false},
		{"at Since", c, 0, span(0, 30000), true},
		{"on the way to the mill", c, 1, span(29000, 30059), false},
		{"in the mill, and back in time", c, 1, span(29000, 30060), true},
		{"at the gate before the mill", c, 0, span(31040, 31041), true},
		{"at the gate too late for the mill", c, 0, span(31042, 31158), false},
		{"at the gate between the mill and the loft", c, 0, span(31042, 31159), false},
		{"in the mill all the time", c, 1, span(31101, 31171), true},
		{"in the mill too late for the loft", c, 1, span(31172, api.MaxTime), false},
		{"in the mill just in time for the loft", c, 1, span(31171, api.MaxTime), true},
		{"in the loft too early", c, 2, span(0, 31128), false},
		{"in the loft from the mill", c, 2, span(0, 31129), true},
		{"in the loft at last", c, 2, span(api.MaxTime, api.MaxTime), true},
		{"at the gate at last", c, 0, span(31201, api.MaxTime), false},
		{"without a reading", void, 2, span(30000, 40000), false},
		{"without marks, too early", empty, 1, span(0, 30059), false},
		{"without marks", empty, 1, span(0, 30060), true},
		{"without marks, in the loft", empty, 2, span(30090, 30090), true},
		{"without marks and reading", clash, 0, span(30000, 40000), false},
	} {
		if got, e := round.Placed(x.c, x.room, x.s); got != x.want || e != api.OK {
			t.Error("Placed", x.what, got, e)
		}
	}
	for _, s := range []api.Span{span(5, 4), span(-1, 4), span(4, api.Never), span(minInt, maxInt), span(-2, -1), span(api.Never, api.Never)} {
		if got, e := round.Placed(c, 0, s); got || e != api.ErrArg {
			t.Error("Placed", s, got, e)
		}
	}
	if got, e := round.Placed(c, 0, span(0, api.MaxTime)); !got || e != api.OK {
		t.Error("Placed at any time", got, e)
	}
}
