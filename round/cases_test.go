package round_test

import (
	"slices"
	"strings"
	"testing"

	"patrol/api"
	"patrol/clock"
	"patrol/order"
	"patrol/round"
)

// markedCase is the example with a mark for each word: what it shows are stations of which it can be (a: the gate, b: the mill, c: the loft). With a plus it is of all stations of the word together, and otherwise of each one, and of each two of them; a dash is a mark that no key can have made.
func markedCase(source string) api.Case {
	c := exampleCase()
	c.Marks = nil
	for k, word := range strings.Fields(source) {
		pins := 0
		for station, pattern := range []int{7, 56, 448} {
			if strings.Contains(word, string(rune('a'+station))) {
				pins |= pattern
			}
		}
		m := api.Mark{At: arc(1000+200*k, 0), Blank: api.AllPins - pins}
		if strings.Contains(word, "+") {
			m.Seen = pins
		}
		c.Marks = append(c.Marks, m)
	}
	c.House.Ways[0] = api.Way{A: 0, B: 1, Secs: 1, Back: 1, Door: -1}
	return c
}

// chain returns the source of an order of n visits to the gate, with a gap between each two of them.
func chain(n int, gap string) string { return "gate" + strings.Repeat(" then "+gap+"gate", n-1) }

func TestP5_2Sequences(t *testing.T) {
	for _, x := range []struct {
		source string
		n      int
		e      api.Errno
	}{
		{"", 1, api.OK},
		{"a", 1, api.OK},
		{"a b c", 1, api.OK},
		{"ab", 4, api.OK},
		{"abc", 9, api.OK},
		{"a+b", 2, api.OK},
		{"a -", 0, api.OK},
		{"a+b a+b a+b a+b a+b", 32, api.OK},
		{"a+b a+b a+b a+b a+b a+b", 0, api.ErrLimit},
		{"ab abc", 0, api.ErrLimit},
		{"ab ab a+b", 32, api.OK},
		{"ab ab ab", 0, api.ErrLimit},
		{"a a a a a a a a a a a a", 1, api.OK},
		{"a a a a a a a a a a b+c", 2, api.OK},
		{"a a a a a a a a a a a b+c", 0, api.ErrLimit},
		{"a a a a a a a a a ab ab", 0, api.ErrLimit},
		{"a a a a a a a a ab ab", 16, api.OK},
		{"abc abc abc abc abc abc abc abc abc abc abc -", 0, api.OK},
		{"- abc abc abc abc abc abc abc abc abc abc abc", 0, api.OK},
		{"abc abc abc abc abc abc abc abc abc abc abc abc", 0, api.ErrLimit},
	} {
		c := markedCase(x.source)
		e := round.Measure(c)
		l, f := round.Sequences(c)
		if e != x.e || f != x.e || len(l) != x.n {
			t.Error(x.source, e, len(l), f)
		}
	}
}

// TestP5_2Many has marks that can be of very many keys.
func TestP5_2Many(t *testing.T) {
	c := exampleCase()
	c.Keys, c.Stations, c.Marks = nil, nil, nil
	for k := range api.MaxStations {
		c.Keys = append(c.Keys, api.Key{ID: k + 1, Pattern: 1 << k})
		c.Stations = append(c.Stations, api.Station{Name: string(rune('a' + k)), Key: k + 1})
	}
	for k := range api.MaxStrikes {
		c.Marks = append(c.Marks, api.Mark{At: arc(1000+k, 0)})
	}
	if e := round.Measure(c); e != api.ErrLimit {
		t.Error("64 reads of each of 12 marks", e)
	}
	// 64 reads of the first ones, and none of one of them: no sequence.
	for k := range c.Marks {
		x := copyOf(c)
		x.Marks[k].Track = 1
		if l, e := round.Sequences(x); e != api.OK || len(l) > 0 {
			t.Error("Sequences", k, len(l), e)
		}
		verdict(t, "without sequences", x, api.VeVoid)
	}
	c.Marks = c.Marks[:2]
	c.Marks[0] = api.Mark{At: arc(1000, 0), Blank: 4095 - 63, Seen: 1} // 1 + 2 * 5 reads
	c.Marks[1] = api.Mark{At: arc(1100, 0), Blank: 4095 - 3, Seen: 1}  // 1 + 2 reads
	if e := round.Measure(c); e != api.ErrLimit {
		t.Error("33 sequences", e)
	}
	c.Marks[0] = api.Mark{At: arc(1000, 0), Blank: 4095 - 7, Seen: 0} // 9 reads
	c.Marks[1] = api.Mark{At: arc(1100, 0), Blank: 4095 - 3, Seen: 1} // 3 reads
	if l, e := round.Sequences(c); e != api.OK || len(l) != 27 {
		t.Error("27 sequences", len(l), e)
	}
}

func TestP5_2Breaks(t *testing.T) {
	six := " (" + strings.Repeat("gate then ", 5) + "gate)"
	either := func(from, to int) string {
		var l []string
		for k := from; k < to; k++ {
			gap := string(rune('1'+k)) + " to " + string(rune('2'+k))
			l = append(l, "gate then after "+gap+" gate")
		}
		return strings.Join(l, " or ")
	}
	for _, x := range []struct {
		what, marks, source string
		links               []int
		e                   api.Errno
	}{
		{"no demands", "a a", "mill", nil, api.OK},
		{"one demand without links", "a a", "gate then gate", []int{0}, api.OK},
		{"64 ways", "a a", either(0, 6), []int{2, 2, 2, 2, 2, 2}, api.OK},
		{"128 ways", "a a", either(0, 7), []int{2, 2, 2, 2, 2, 2, 2}, api.ErrLimit},
		{"65 ways", "a a a a a a a a", chain(3, "after 1 to 9 ") + " then after 1 to 86400 " + chain(5, "") + " or " + chain(7, "after 1 to 9 ") + " then after 1 to 86400 gate", []int{5, 13}, api.ErrLimit},
		{"60 ways", "a a a a a a a a", chain(3, "after 1 to 9 ") + " then after 1 to 86400 " + chain(5, "") + " or " + chain(7, "after 1 to 9 ") + " then gate", []int{5, 12}, api.OK},
		{"128 ways, and one demand without links", "a a", either(0, 7) + " or gate then gate", []int{0, 2, 2, 2, 2, 2, 2, 2}, api.OK},
		{"22 ways, with one demand", "a a a a a a a a a a a a", "times 2 to 2 after 1 to 9 times 6 to 6 after 1 to 9 gate", []int{22}, api.OK},
		{"too many demands", "a a a a a a a a", "times 4 to 4 (gate then after 1 to 86400 gate or gate then after 2 to 86400 gate or gate then after 3 to 86400 gate)", nil, api.ErrLimit},
		{"a demand that does not matter", "a a a", either(0, 7) + " or" + six, nil, api.OK},
	} {
		c := markedCase(x.marks)
		c.Order = sourced(x.source)
		names := slices.Repeat([]string{"gate"}, len(c.Marks))
		d, e := order.Demands(c.Order, names)
		var links []int
		for _, y := range d {
			links = append(links, len(y.Links))
		}
		slices.Sort(links)
		if !slices.Equal(links, x.links) || e != api.OK && x.e != api.ErrLimit {
			t.Error("not the demands of this test:", x.what, links, e)
		}
		if e := round.Measure(c); e != x.e {
			t.Error(x.what, e, x.e)
		}
	}
	c := markedCase("a+b a")
	c.Order = sourced("loft then (" + either(0, 7) + ")")
	if e := round.Measure(c); e != api.OK {
		t.Error("no demands", e)
	}
	c.Order = sourced("mill then (" + either(0, 7) + ")")
	if e := round.Measure(c); e != api.ErrLimit {
		t.Error("too many ways for the second sequence alone", e)
	}
}

func TestP5_2Loose(t *testing.T) {
	loose := func(width int) func(c *api.Case) {
		return func(c *api.Case) { c.Session.In.Hi, c.Session.Out.Hi = c.Session.In.Lo+width-2, 60000 }
	}
	c := with(loose(api.MaxLoose))
	spans, e := clock.Spans(definedRecord(c, reads(0, 0, 1, 1, 2, 2)))
	if e != api.OK || spans[1].Hi-spans[1].Lo != api.MaxLoose {
		t.Fatal("not the spans of this test:", spans, e)
	}
	if e := round.Measure(c); e != api.OK {
		t.Error("as loose as can be", e)
	}
	c = with(loose(api.MaxLoose + 1))
	if e := round.Measure(c); e != api.ErrRange {
		t.Error("too loose", e)
	}
	if e := round.Measure(with(loose(api.MaxLoose+1), func(c *api.Case) { c.Marks[0], c.Marks[2] = c.Marks[1], c.Marks[1] })); e != api.ErrLimit {
		t.Error("too loose, with too many sequences", e)
	}
	many := "(gate then after 1 to 9 loft"
	for k := range 6 {
		many += " or gate then after " + string(rune('2'+k)) + " to 9 loft"
	}
	many += ") then loft"
	// The sequence with too many ways to break its demands comes behind others that are too loose.
	if e := round.Measure(with(loose(api.MaxLoose+1), func(c *api.Case) { c.Order = sourced(many) })); e != api.ErrLimit {
		t.Error("too loose, with too many ways", e)
	}
	if e := round.Measure(with(loose(api.MaxLoose+1), func(c *api.Case) { c.Session.Out = span(31000, 31000) })); e != api.OK {
		t.Error("a record that is not consistent has no spans", e)
	}
	if e := round.Measure(with(loose(api.MaxLoose+1), func(c *api.Case) { c.Marks = nil })); e != api.OK {
		t.Error("no marks have no spans", e)
	}
	if e := round.Measure(with(loose(api.MaxLoose+1), func(c *api.Case) { c.Marks[1].Track = 1 })); e != api.OK {
		t.Error("no sequences have no spans", e)
	}
	last := with(func(c *api.Case) { c.Marks[2].At = arc(1200, 2399) })
	if e := round.Measure(last); e != api.ErrRange {
		t.Error("only the last mark is too loose", e)
	}
	last.Marks[2].At.Len = 2398
	if e := round.Measure(last); e != api.OK {
		t.Error("the last mark is as loose as can be", e)
	}
}

// wide returns a case whose session and marks lie anywhere.
func (c *chance) wide() api.Case {
	x := exampleCase()
	lo := c.pick(0, 5, c.n(20000))
	hi := c.pick(api.MaxPos, api.MaxPos-5, c.from(20000, api.MaxPos))
	x.Session.Zero, x.Session.End = span(lo, lo+c.n(100)), span(hi-c.n(100), hi)
	x.Ink.Slip = c.pick(0, 1, api.MaxSlip, c.n(api.MaxSlip+1))
	near := c.pick(lo, hi, 0, api.MaxPos, c.n(api.Ring)) + c.pick(0, x.Ink.Slip, -x.Ink.Slip, c.from(-700, 700)) + c.from(-1, 1)
	at := api.Arc{From: ((near % api.Ring) + api.Ring) % api.Ring, Len: c.pick(0, 1, c.n(700), c.n(api.Ring-1), api.Ring-1-c.n(1300))}
	if c.n(3) == 0 {
		at.From = (at.From - at.Len + api.Ring) % api.Ring // near its last angle
	}
	if at.Len == api.Ring-1 {
		at.From = 0
	}
	x.Marks = x.Marks[:1]
	x.Marks[0].At = at
	return x
}

func TestP5_3Positions(t *testing.T) {
	c := chance(53)
	good, bad := 0, 0
	for range 800 {
		x := c.wide()
		want, is := definedPositions(x, x.Marks[0])
		got, e := round.Positions(x, 0)
		if !is {
			bad++
			if f := round.Check(x); e != api.ErrRange || f != api.ErrRange || got != (api.Span{}) {
				t.Error("Positions", x.Session, x.Ink, x.Marks[0].At, got, e, f)
			}
			continue
		}
		good++
		if e != api.OK || got != want {
			t.Error("Positions", x.Session, x.Ink, x.Marks[0].At, got, e, want)
		}
	}
	if min(good, bad) < 150 {
		t.Error("not an even test:", good, bad)
	}
}

func TestP5_3PositionsEdges(t *testing.T) {
	for _, x := range []struct {
		what      string
		zero, end int
		at        api.Arc
		slip      int
		want      api.Span
		e         api.Errno
	}{
		{"the mark alone", 0, 11000, arc(1000, 0), 0, span(1000, 1000), api.OK},
		{"with the slip", 0, 11000, arc(1000, 5), 3, span(997, 1008), api.OK},
		{"clipped at the first position", 1000, 11000, arc(998, 5), 1, span(1000, 1004), api.OK},
		{"the first position alone", 1000, 11000, arc(998, 1), 1, span(1000, 1000), api.OK},
		{"just ahead of the first position", 1000, 11000, arc(998, 0), 1, span(0, 0), api.ErrRange},
		{"clipped at the last position", 0, 11000, arc(10995, 50), 0, span(10995, 11000), api.OK},
		{"the last position alone", 0, 11000, arc(11005, 50), 5, span(11000, 11000), api.OK},
		{"just behind the last position", 0, 11000, arc(11006, 50), 5, span(0, 0), api.ErrRange},
		{"over the angle 0", 0, 11000, arc(43190, 20), 0, span(0, 10), api.OK},
		{"over the angle 0, by the slip alone", 0, 11000, arc(43190, 0), 12, span(0, 2), api.OK},
		{"over the angle 0, at both ends", 0, api.MaxPos, arc(43190, 20), 0, span(0, 0), api.ErrRange},
		{"up to the last angle", 0, api.MaxPos, arc(43190, 9), 0, span(43190, 43199), api.OK},
		{"the whole circle", 0, api.MaxPos, arc(0, 43199), 0, span(0, 43199), api.OK},
		{"all but one angle", 0, api.MaxPos, arc(0, 43198), 0, span(0, 43198), api.OK},
		{"all but one angle, with the slip", 0, api.MaxPos, arc(5, 43198), 1, span(0, 43199), api.OK},
		{"all but one angle in between", 0, api.MaxPos, arc(5, 43198), 0, span(0, 0), api.ErrRange},
		{"two pieces", 100, 11000, arc(10990, 33000), 0, span(0, 0), api.ErrRange},
		{"the later piece alone", 800, 11000, arc(10990, 33000), 0, span(10990, 11000), api.OK},
		{"the whole session", 100, 11000, arc(11000, 43000), 0, span(0, 0), api.ErrRange},
		{"the whole session, with the slip", 100, 11000, arc(11000, 32301), 99, span(0, 0), api.ErrRange},
	} {
		c := with(func(c *api.Case) {
			c.Session.Zero, c.Session.End = span(x.zero, x.zero), span(x.end, x.end)
			c.Ink.Slip = x.slip
			c.Marks = c.Marks[:1]
			c.Marks[0].At = x.at
		})
		if got, e := round.Positions(c, 0); got != x.want || e != x.e {
			t.Error(x.what, got, e)
		}
	}
}

// anyMarks returns a case with keys and marks of all kinds, which need not be measured.
func (c *chance) anyMarks() api.Case {
	x := exampleCase()
	x.Ink = api.Ink{Faint: c.n(3), Stray: c.n(3)}
	x.Keys, x.Stations, x.Marks = nil, nil, nil
	for k := range c.from(1, 8) {
		x.Keys = append(x.Keys, api.Key{ID: 10 + 3*k, Track: c.n(2), Pattern: 1 + c.n(api.AllPins)})
	}
	hangs := slices.Clone(x.Keys)
	for len(hangs) > 0 && c.n(8) > 0 {
		// In no order, and not all of them.
		k := c.n(len(hangs))
		x.Stations = append(x.Stations, api.Station{Name: string(rune('a' + len(x.Stations))), Key: hangs[k].ID, Room: c.n(3)})
		hangs = slices.Delete(hangs, k, k+1)
	}
	for k := range c.n(5) {
		x.Marks = append(x.Marks, c.mark(x.Keys, 1000+100*k))
		if c.n(3) == 0 {
			x.Marks[k].Track = c.n(3)
		}
	}
	return x
}

func TestP5_3Reads(t *testing.T) {
	c := chance(533)
	ones, twos, none := 0, 0, 0
	for range 1500 {
		x := c.anyMarks()
		for k := range x.Marks {
			got, e := round.Reads(x, k)
			want := definedReads(x, k)
			if e != api.OK || !slices.EqualFunc(got, want, slices.Equal) {
				t.Error("Reads", x.Keys, x.Stations, x.Marks[k], x.Ink, got, e, want)
			}
			for _, read := range want {
				switch len(read) {
				case 1:
					ones++
				case 2:
					twos++
				}
			}
			if len(want) == 0 {
				none++
			}
		}
	}
	if min(ones, twos, none) < 200 {
		t.Error("not an even test:", ones, twos, none)
	}
}

func TestP5_4(t *testing.T) {
	c := chance(54)
	many, limits := 0, 0
	for range 600 {
		x := c.anyMarks()
		got, e := round.Sequences(x)
		want := definedSequences(x)
		longest := 0
		for _, l := range want {
			longest = max(longest, len(l))
		}
		if len(want) > api.MaxReads || longest > api.MaxStrikes {
			limits++
			if e != api.ErrLimit || len(got) > 0 {
				t.Error("Sequences", len(want), len(got), e)
			}
		} else if e != api.OK || !slices.EqualFunc(got, want, slices.Equal) {
			t.Error("Sequences", x, got, e, want)
		}
		if len(want) > 0 {
			many++
			l := want[c.n(len(want))]
			// Also for a case that is not measured.
			if r, e := round.Record(x, l); e != api.OK || !isRecord(r, definedRecord(x, l)) {
				t.Error("Record", x, l, r, e)
			}
		}
	}
	if many < 200 || limits < 30 {
		t.Error("not an even test:", many, limits)
	}
}

// TestP5_4Wrong asks for records of lists that are wrong by a little.
func TestP5_4Wrong(t *testing.T) {
	c := chance(544)
	yes, no := 0, 0
	for range 400 {
		x := c.anyMarks()
		all := definedSequences(x)
		if len(all) == 0 || len(all) > 400 {
			continue
		}
		for range 5 {
			l := slices.Clone(all[c.n(len(all))])
			if n := len(l); n > 0 {
				k := c.n(n)
				switch c.n(6) {
				case 0:
					l[k].Station = c.from(-1, len(x.Stations))
				case 1:
					l[k].Mark += c.from(-1, 1)
				case 2:
					l = slices.Delete(l, k, k+1)
				case 3:
					l = slices.Insert(l, k, api.Read{Mark: l[k].Mark, Station: c.n(len(x.Stations) + 1)})
				case 4:
					o := c.n(n)
					l[k], l[o] = l[o], l[k]
				}
			} else {
				l = reads(c.from(-1, 0), 0)[:c.n(2)]
			}
			is := slices.ContainsFunc(all, func(y []api.Read) bool { return slices.Equal(y, l) })
			r, e := round.Record(x, l)
			switch {
			case is:
				yes++
				if e != api.OK || !isRecord(r, definedRecord(x, l)) {
					t.Error("Record", x, l, r, e)
				}
			default:
				no++
				if e != api.ErrArg || !isRecord(r, api.Record{}) {
					t.Error("Record", x, l, r, e)
				}
			}
		}
	}
	if min(yes, no) < 200 {
		t.Error("not an even test:", yes, no)
	}
}

func TestP5_4Long(t *testing.T) {
	c := markedCase("ab ab ab ab ab ab ab") // not measured
	var l []api.Read
	for k := range c.Marks {
		l = append(l, reads(k, 1, k, 0)...)
	}
	r, e := round.Record(c, l)
	if e != api.OK || len(r.Strikes) != 14 || r.Strikes[13] != (api.Strike{ID: 14, Pos: span(2200, 2200)}) {
		t.Error("Record", r, e)
	}
	c.Session.Stops = []api.Stop{{At: 5000, Secs: span(3, 4)}}
	if r, e := round.Record(c, l); e != api.OK || !isSameSession(r.Session, c.Session) || len(r.Sights) > 0 {
		t.Error("Record", r, e)
	}
	if r, e := round.Record(c, l[:13]); e != api.OK || len(r.Strikes) != 13 {
		t.Error("Record of a list in which the last mark is of one station", r, e)
	}
	if _, e := round.Record(c, l[2:]); e != api.ErrArg {
		t.Error("Record of a list without the first mark", e)
	}
	if _, e := round.Record(c, l[:12]); e != api.ErrArg {
		t.Error("Record of a list without the last mark", e)
	}
	if _, e := round.Record(c, nil); e != api.ErrArg {
		t.Error("Record of nothing", e)
	}
}
