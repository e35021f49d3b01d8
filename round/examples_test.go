package round_test

import (
	"slices"
	"testing"

	"patrol/api"
	"patrol/round"
)

// verdict checks what Certify returns.
func verdict(t *testing.T, what string, c api.Case, want int) {
	t.Helper()
	if got, e := round.Certify(c); got != want || e != api.OK {
		t.Errorf("Certify: %s: %d %d, not %d", what, got, e, want)
	}
}

// repaired checks what Repair returns; without a list it is ErrNone.
func repaired(t *testing.T, what string, c api.Case, most int, want []int) {
	t.Helper()
	got, e := round.Repair(c, most)
	if want == nil && e != api.ErrNone || want != nil && e != api.OK || !slices.Equal(got, want) {
		t.Errorf("Repair: %s with %d: %v %d, not %v", what, most, got, e, want)
	}
}

func TestExamples(t *testing.T) {
	c := exampleCase()
	l, e := round.Reads(c, 1)
	if e != api.OK || !slices.EqualFunc(l, [][]int{{1}, {2}, {1, 2}, {2, 1}}, slices.Equal) {
		t.Error("Reads", l, e)
	}
	all, e := round.Sequences(c)
	if e != api.OK || len(all) != 4 {
		t.Fatal("Sequences", all, e)
	}
	same(t, "the first sequence", all[0], e, reads(0, 0, 1, 1, 2, 2)...)
	first, e := round.First(c, all[0])
	same(t, "First", first, e, 30999, 31099, 31199)
	last, e := round.Last(c, all[0])
	same(t, "Last", last, e, 31001, 31101, 31201)
	for k, want := range []api.Errno{api.ErrNone, api.ErrNone, api.OK, api.OK} {
		p, e := round.Refute(c, all[k])
		if _, f := round.First(c, all[k]); e != want || (f == api.OK) == (want == api.OK) || want == api.OK && round.CheckRefute(c, all[k], p) != api.OK {
			t.Error("Refute", all[k], p, e, f)
		}
	}
	verdict(t, "the example", c, api.VeDoubtful)
	l1, e := round.Visited(c)
	same(t, "Visited", l1, e, 0, 2)
	l1, e = round.Missed(c)
	same(t, "Missed", l1, e)
	if x, e := round.When(c, 1); x != span(31099, 31101) || e != api.OK {
		t.Error("When", x, e)
	}
}

// TestExamplesOfTheWhole are the fourth, fifth and sixth examples of DOC.md, with the dial 7.
func TestExamplesOfTheWhole(t *testing.T) {
	dial := func(c *api.Case) { c.Session.ID = 7 }
	verdict(t, "the dial 7", with(dial), api.VeDoubtful)
	sharp, e := round.Sharper(with(dial), 1, seen())
	if e != api.OK {
		t.Error("Sharper", e)
	}
	verdict(t, "the dial 7 with a second reader", sharp, api.VeCertified)
	if e := round.CheckReading(sharp, api.Reading{Reads: reads(0, 0, 1, 1, 2, 2), Times: []int{31000, 31100, 31200}}); e != api.OK {
		t.Error("CheckReading", e)
	}
	verdict(t, "a gap that is too narrow", with(dial, func(c *api.Case) { c.Order = sourced("gate then after 60 to 90 mill then loft") }), api.VeFailed)
}

func TestExamplesOfOthers(t *testing.T) {
	sharp, e := round.Sharper(exampleCase(), 1, seen())
	if e != api.OK {
		t.Error("Sharper", e)
	}
	verdict(t, "a second reader", sharp, api.VeCertified)
	failed := ordered("gate then mill then mill")
	verdict(t, "the mill twice", failed, api.VeFailed)
	repaired(t, "the mill twice", failed, 1, nil)
	repaired(t, "without the mill", ordered("gate then loft"), 1, []int{1})
	in := func(c *api.Case) { c.Start = 2 }
	verdict(t, "from the loft", with(in), api.VeVoid)
	repaired(t, "from the loft, gate", with(in, func(c *api.Case) { c.Order = sourced("gate then loft") }), 2, nil)
	repaired(t, "from the loft, loft", with(in, func(c *api.Case) { c.Order = sourced("loft") }), 2, []int{0, 1})
}
