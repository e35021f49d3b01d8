package clock_test

import (
	"testing"

	"patrol/api"
	"patrol/clock"
)

// spansOf checks the spans of a record's strikes.
func spansOf(t *testing.T, what string, r api.Record, want ...api.Span) {
	t.Helper()
	got, e := clock.Spans(r)
	same(t, "Spans "+what, got, want)
	if e != api.OK {
		t.Error(what, e)
	}
}

func TestExamples(t *testing.T) {
	r := exampleRecord()
	spansOf(t, "of r", r, span(1990, 2011), span(2990, 3016))
	if x, e := clock.Between(r, 0, 1); x != span(999, 1006) || e != api.OK {
		t.Error("Between", x, e)
	}
	if x, e := clock.Removed(r); x != span(5000, 5031) || e != api.OK {
		t.Error("Removed", x, e)
	}
	if x, e := clock.When(r, 500); x != span(1490, 1510) || e != api.OK {
		t.Error("When", x, e)
	}
	if is, e := clock.Fits(r, []int{2000, 3000}); !is || e != api.OK {
		t.Error("Fits", is, e)
	}
	if is, e := clock.Fits(r, []int{2000, 3007}); is || e != api.OK {
		t.Error("Fits", is, e)
	}
	spansOf(t, "with a sight", exampleRecord(sight(1, 2005, 2100)), span(2005, 2011), span(3004, 3016))
	cycle, is, e := clock.Clash(contradiction())
	if !is || e != api.OK || clock.CheckClash(contradiction(), cycle) != api.OK {
		t.Error("Clash", cycle, is, e)
	}
	ids, sights, e := clock.Suspects(contradiction())
	same(t, "the strikes of Suspects", ids, []int{1})
	same(t, "the sights of Suspects", sights, []int{0})
	if e != api.OK {
		t.Error("Suspects", e)
	}
}

func TestExamplesOfSessions(t *testing.T) {
	r := exampleRecord()
	r.Session.Stops = []api.Stop{{At: 1500, Secs: span(60, 70)}}
	spansOf(t, "with a stop", r, span(1990, 2011), span(3050, 3086))
	r = exampleRecord()
	r.Session.Rate = span(990000, 1010000)
	spansOf(t, "with a loose rate", r, span(1980, 2022), span(2970, 3037))
	x := api.Run{Start: 1000, Micro: 500000, Legs: []api.Leg{{Secs: 100, Rate: 1000000}}}
	if pos, e := clock.Needle(x, 1007); pos != 7 || e != api.OK {
		t.Error("Needle", pos, e)
	}
}

// TestExampleOfTheWhole is the second example of DOC.md.
func TestExampleOfTheWhole(t *testing.T) {
	s := api.Session{ID: 7, In: span(30000, 30000), Out: span(39000, 41000), Zero: span(0, 0), End: span(9000, 11000), Rate: span(api.Million, api.Million)}
	r := api.Record{Session: s, Strikes: []api.Strike{strike(1, 1000, 1000), strike(2, 1100, 1100), strike(3, 1200, 1200)}}
	spansOf(t, "of the night", r, span(30999, 31001), span(31099, 31101), span(31199, 31201))
}
