package round_test

import (
	"slices"
	"testing"

	"patrol/api"
	"patrol/round"
)

// args are arguments of the functions.
type args struct {
	mark, station, room, most int
	l                         []api.Read
	r                         api.Reading
	p                         []api.Raise
	all                       [][]api.Raise
	s                         api.Span
	m                         api.Mark
	marks                     []int
}

// rightArgs are right for the example's case.
func rightArgs() args {
	return args{
		mark: 1, station: 1, room: 1, most: 1,
		l: hurried(), r: api.Reading{Reads: reads(0, 0, 1, 1, 2, 2), Times: []int{31000, 31100, 31200}},
		p: raises(1, api.ByClock, 31099, 2, api.ByWalk, 31129), s: span(30000, 31000), m: seen(), marks: []int{1},
	}
}

// outcome is what a call returned: its error, and whether all other results were zero.
type outcome struct {
	e    api.Errno
	zero bool
}

// calls returns the outcome of each function but Check.
func calls(c api.Case, x args) map[string]outcome {
	m := map[string]outcome{}
	put := func(name string, e api.Errno, zero bool) { m[name] = outcome{e, zero} }
	put("Measure", round.Measure(c), true)
	s, e := round.Positions(c, x.mark)
	put("Positions", e, s == api.Span{})
	ll, e := round.Reads(c, x.mark)
	put("Reads", e, len(ll) == 0)
	all, e := round.Sequences(c)
	put("Sequences", e, len(all) == 0)
	r, e := round.Record(c, x.l)
	put("Record", e, isRecord(r, api.Record{}))
	l, e := round.First(c, x.l)
	put("First", e, len(l) == 0)
	l, e = round.Last(c, x.l)
	put("Last", e, len(l) == 0)
	put("CheckReading", round.CheckReading(c, x.r), true)
	some, e := round.Some(c)
	put("Some", e, len(some.Reads) == 0 && len(some.Times) == 0)
	some, e = round.Other(c)
	put("Other", e, len(some.Reads) == 0 && len(some.Times) == 0)
	n, e := round.Certify(c)
	put("Certify", e, n == 0)
	l, e = round.Visited(c)
	put("Visited", e, len(l) == 0)
	l, e = round.Missed(c)
	put("Missed", e, len(l) == 0)
	s, e = round.When(c, x.station)
	put("When", e, s == api.Span{})
	p, e := round.Refute(c, x.l)
	put("Refute", e, len(p) == 0)
	put("CheckRefute", round.CheckRefute(c, x.l, x.p), true)
	pp, e := round.Miss(c, x.station)
	put("Miss", e, len(pp) == 0)
	put("CheckMiss", round.CheckMiss(c, x.station, x.all), true)
	other, e := round.Sharper(c, x.mark, x.m)
	put("Sharper", e, isSameCase(other, api.Case{}))
	other, e = round.Without(c, x.marks)
	put("Without", e, isSameCase(other, api.Case{}))
	l, e = round.Repair(c, x.most)
	put("Repair", e, len(l) == 0)
	is, e := round.Placed(c, x.room, x.s)
	put("Placed", e, !is)
	return m
}

// allFail checks that some functions return an error, and nothing else.
func allFail(t *testing.T, what string, m map[string]outcome, e api.Errno, names ...string) {
	t.Helper()
	for _, name := range names {
		if x, is := m[name]; x.e != e || !x.zero || !is {
			t.Error(what, name, x, e)
		}
	}
}

// The functions with arguments of some kinds; those that return no error of Measure; and all but Check.
func withIndex() []string {
	return []string{"Positions", "Reads", "Sharper", "When", "Miss", "CheckMiss", "Placed"}
}
func withSequence() []string { return []string{"First", "Last", "Refute", "CheckRefute"} }
func unmeasured() []string {
	return []string{"Positions", "Reads", "Record", "Sharper", "Without"}
}
func everyFunction() []string {
	var l []string
	for name := range calls(exampleCase(), rightArgs()) {
		l = append(l, name)
	}
	return l
}
func measuring() []string {
	return slices.DeleteFunc(everyFunction(), func(name string) bool { return slices.Contains(unmeasured(), name) })
}

// wrongArgs are wrong for each case: indices, and all others.
func wrongArgs() args {
	x := wrongOthers()
	x.mark, x.station, x.room = -1, -1, -1
	return x
}
func wrongOthers() args {
	x := rightArgs()
	x.most, x.s, x.l, x.r, x.all, x.m = 3, span(5, 4), reads(0, 7), api.Reading{Reads: reads(0, 7)}, make([][]api.Raise, 1), api.Mark{Track: -1}
	return x
}

// loose is a case that is not measured since a span is too wide; crowded is one that has too many sequences.
func loose() api.Case {
	return with(func(c *api.Case) { c.Marks[2].At.Len = 2399 })
}
func crowded() api.Case {
	return with(func(c *api.Case) { c.Marks[0], c.Marks[2] = c.Marks[1], c.Marks[1] })
}

func TestErrorsOfCheck(t *testing.T) {
	for _, l := range faults() {
		for _, x := range l {
			c := with(x.change)
			allFail(t, x.what, calls(c, wrongArgs()), x.e, everyFunction()...)
			allFail(t, x.what, calls(c, rightArgs()), x.e, everyFunction()...)
		}
	}
}

func TestErrorsOfIndices(t *testing.T) {
	for _, c := range []api.Case{exampleCase(), loose(), crowded()} {
		for _, k := range []int{-1, 3, minInt, maxInt} {
			for _, x := range []args{rightArgs(), wrongOthers()} {
				x.mark, x.station, x.room = k, k, k
				allFail(t, "a wrong index", calls(c, x), api.ErrArg, withIndex()...)
			}
		}
	}
	c := with(func(c *api.Case) { c.Marks, c.Stations = nil, nil })
	x := rightArgs()
	x.mark, x.station = 0, 0
	allFail(t, "no marks and stations", calls(c, x), api.ErrArg, "Positions", "Reads", "Sharper", "When", "Miss", "CheckMiss")
}

func TestErrorsOfMeasure(t *testing.T) {
	for _, x := range []struct {
		c api.Case
		e api.Errno
	}{{loose(), api.ErrRange}, {crowded(), api.ErrLimit}} {
		if e := round.Measure(x.c); e != x.e {
			t.Fatal("not the case of this test:", e)
		}
		allFail(t, "not measured", calls(x.c, wrongOthers()), x.e, measuring()...)
		allFail(t, "not measured", calls(x.c, rightArgs()), x.e, measuring()...)
		right := rightArgs()
		right.l = reads(0, 1, 1, 2, 1, 1, 2, 2)
		if definedReads(x.c, 0)[0][0] == 0 {
			right.l[0].Station = 0
		}
		m := calls(x.c, right)
		for _, name := range unmeasured() {
			if o := m[name]; o.e != api.OK || o.zero {
				t.Error("needs not be measured:", name, o)
			}
		}
		allFail(t, "not measured, with a wrong list", calls(x.c, wrongOthers()), api.ErrArg, "Record", "Sharper")
	}
}

func TestErrorsOfSequences(t *testing.T) {
	for _, l := range [][]api.Read{nil, reads(0, 0), reads(0, 0, 1, 1), reads(0, 0, 2, 2), reads(0, 0, 1, 0, 2, 2), reads(0, 1, 1, 1, 2, 2), reads(0, 0, 2, 2, 1, 1), reads(1, 1, 0, 0, 2, 2),
		reads(0, 0, 1, 1, 1, 1, 2, 2), reads(0, 0, 1, 1, 1, 2, 1, 1, 2, 2), reads(0, 0, 1, 1, 2, 2, 2, 2), reads(0, 0, 1, 1, 2, 2, 3, 2), reads(0, 0, 1, 3, 2, 2), reads(0, 0, 1, -1, 2, 2), reads(-1, 0, 1, 1, 2, 2),
		reads(0, maxInt, minInt, 1, 2, 2), slices.Repeat(reads(0, 0), 100)} {
		x := rightArgs()
		x.l, x.p, x.r = l, nil, api.Reading{Reads: l, Times: make([]int, len(l))}
		m := calls(exampleCase(), x)
		allFail(t, "no sequence", m, api.ErrArg, withSequence()...)
		allFail(t, "no sequence", m, api.ErrArg, "Record", "CheckReading")
	}
}

// TestErrorsOfOthers checks that all functions have results for the example, but for those that it does not have.
func TestErrorsOfOthers(t *testing.T) {
	m := calls(exampleCase(), rightArgs())
	none := []string{"First", "Last", "Miss"} // the sequence has no timing; the mill was not missed
	allFail(t, "the example", m, api.ErrNone, none...)
	allFail(t, "the example", m, api.ErrProof, "CheckMiss")
	for name, o := range m {
		if (o.e != api.OK || o.zero) && !slices.Contains(slices.Concat(none, []string{"Measure", "CheckReading", "CheckRefute", "CheckMiss", "Missed", "Repair"}), name) {
			t.Error(name, o)
		}
	}
	allFail(t, "the example", m, api.OK, "Measure", "CheckReading", "CheckRefute", "Missed", "Repair")
	allFail(t, "wrong arguments", calls(exampleCase(), wrongOthers()), api.ErrArg, "Repair", "Placed", "Sharper", "Record", "First", "Last", "Refute", "CheckRefute", "CheckReading")
}
