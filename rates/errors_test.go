package rates_test

import (
	"slices"
	"testing"

	"patrol/api"
	"patrol/rates"
)

// The functions that take policies, rounds, postings, two lists of postings, and nights.
var (
	ofPolicies = []string{"InForce", "Season", "Rests", "Outlook"}
	ofPolicy   = []string{"Night"}
	ofRounds   = []string{"Decide", "Night", "Season", "Rests", "Outlook"}
	ofPostings = []string{"Balance", "Balances", "Settle", "Correct", "Moved", "Earned", "Print"}
	ofBoth     = []string{"Correct", "Moved"}
	ofNights   = []string{"Season", "Rests", "Outlook", "Earned"}
)

// badOthers are arguments that are wrong, but for policies, rounds and postings.
func badOthers(x *args) {
	x.certified = nil
	x.nights = span(api.MaxNight+1, 5)
	x.night, x.amount, x.account, x.id, x.which = -1, -1, 0, 0, -1
}

func TestNoErrors(t *testing.T) {
	for name, got := range calls(rightArgs()) {
		if got.e != api.OK || got.zero {
			t.Error(name, got)
		}
	}
}

// TestErrorsOfPolicies checks that the errors of policies come ahead of all others.
func TestErrorsOfPolicies(t *testing.T) {
	for _, x := range []struct {
		l    []api.Policy
		want api.Errno
	}{
		{manyPolicies(api.MaxPolicies + 1), api.ErrLimit},
		{policies(api.Policy{Since: 9}, api.Policy{Since: 9}), api.ErrTwice},
		{policies(api.Policy{Since: 9}, api.Policy{Since: 8}, api.Policy{Bonus: -1}), api.ErrTwice},
		{policies(api.Policy{Since: 9}, api.Policy{Bonus: -1}), api.ErrArg},
		{policies(api.Policy{Cap: 1}), api.ErrArg},
	} {
		allFail(t, "policies", with(func(y *args) { y.ps = x.l }), x.want, ofPolicies...)
		for _, l := range [][]api.Round{nil, make([]api.Round, api.MaxSeason+1), rounds(exampleRounds()[1], exampleRounds()[0])} {
			bad := with(badOthers)
			bad.ps, bad.l = x.l, l
			allFail(t, "policies, and others", bad, x.want, ofPolicies...)
		}
	}
	for _, p := range policies(api.Policy{Cap: 1}, api.Policy{Since: -1}, api.Policy{Since: api.MaxNight + 1}, api.Policy{Bonus: api.Mille + 1}) {
		for _, l := range [][]api.Round{exampleRounds(), make([]api.Round, api.MaxSeason+1), rounds(exampleRounds()[1], exampleRounds()[0])} {
			for _, night := range []int{12, -1} {
				allFail(t, "the policy", with(func(x *args) { x.p, x.l, x.night = p, l, night }), api.ErrArg, ofPolicy...)
			}
		}
	}
}

// TestErrorsOfRounds checks that the errors of rounds come behind those of policies, and ahead of all others.
func TestErrorsOfRounds(t *testing.T) {
	for _, x := range []struct {
		l    []api.Round
		want api.Errno
	}{
		{manyRounds(api.MaxSeason+1, api.VeVoid), api.ErrLimit},
		{rounds(exampleRounds()[0], exampleRounds()[0]), api.ErrTwice},
		{rounds(exampleRounds()[1], exampleRounds()[0], round(0, 0, 0)), api.ErrTwice},
		{rounds(round(12, 1, 0, 5)), api.ErrArg},
		{rounds(round(12, 1, api.VeVoid)), api.ErrArg},
		{rounds(exampleRounds()[0], round(12, 0, api.VeVoid, 5)), api.ErrArg},
	} {
		allFail(t, "rounds", with(func(y *args) { y.l = x.l }), x.want, ofRounds...)
		bad := with(badOthers)
		bad.l = x.l
		allFail(t, "rounds, and others", bad, x.want, ofRounds...)
		bad.nights = span(0, api.MaxNights)
		allFail(t, "rounds, and too many nights", bad, x.want, ofRounds...)
	}
}

// TestErrorsOfPostings checks that the errors of postings come ahead of all others, for old ahead of now.
func TestErrorsOfPostings(t *testing.T) {
	many, bad := manyPostings(api.MaxPostings+1), postings(post(5, 5, 1, 2, 3), post(5, 5, 2, 2, 3))
	for _, x := range []struct {
		l    []api.Posting
		want api.Errno
	}{{many, api.ErrLimit}, {bad, api.ErrArg}, {make([]api.Posting, api.MaxPostings+1), api.ErrLimit}} {
		allFail(t, "postings", with(func(y *args) { y.old = x.l }), x.want, ofPostings...)
		allFail(t, "the second postings", with(func(y *args) { y.now = x.l }), x.want, ofBoth...)
		for _, now := range [][]api.Posting{many, bad} {
			y := with(badOthers)
			y.old, y.now = x.l, now
			allFail(t, "postings, and others", y, x.want, ofPostings...)
		}
	}
	great := repeat(post(0, 0, 1, 2, api.MaxAmount), api.MaxPostings+1) // which Settle could not pay
	allFail(t, "many great postings", with(func(x *args) { x.old = great }), api.ErrLimit, "Settle")
	great[3].Amount++
	allFail(t, "great postings", with(func(x *args) { x.old = great[:10] }), api.ErrArg, "Settle")
}

// TestErrorsOfNights checks that the errors of nights come behind those of lists, and ahead of all others.
func TestErrorsOfNights(t *testing.T) {
	const most = api.MaxNight
	for _, s := range []api.Span{span(5, 4), span(-1, 3), span(-1, -1), span(0, most+1), span(most-3, most+1), span(most+1, most+1), span(minInt, maxInt), span(maxInt, minInt), span(minInt, 3), span(3, maxInt), span(-1, api.MaxNights), span(most, 0)} {
		x := with(badOthers)
		x.nights = s
		allFail(t, "nights", x, api.ErrArg, ofNights...)
		allFail(t, "nights alone", with(func(x *args) { x.nights = s }), api.ErrArg, ofNights...)
	}
	for _, s := range []api.Span{span(0, api.MaxNights), span(most-api.MaxNights, most), span(0, most), span(77, 77+api.MaxNights)} {
		x := with(badOthers)
		x.nights = s
		allFail(t, "too many nights", x, api.ErrLimit, ofNights...)
		allFail(t, "too many nights alone", with(func(x *args) { x.nights = s }), api.ErrLimit, ofNights...)
	}
	for _, s := range []api.Span{span(0, api.MaxNights-1), span(most-api.MaxNights+1, most), span(0, 0), span(most, most)} {
		m := calls(with(func(x *args) { x.nights = s }))
		for _, name := range ofNights {
			if m[name].e != api.OK {
				t.Error(name, s, m[name])
			}
		}
	}
	for _, night := range []int{-1, most + 1, minInt, maxInt} {
		allFail(t, "the night", with(func(x *args) { x.night = night }), api.ErrArg, "Night", "InForce")
	}
}

// TestErrorsLast checks the errors that come behind those of nights.
func TestErrorsLast(t *testing.T) {
	allFail(t, "IDs", with(func(x *args) { x.id, x.account, x.which, x.certified = 0, 0, 4, []bool{true, true} }), api.ErrArg, "Earned", "Balance", "Rests", "Decide")
	allFail(t, "Since", with(func(x *args) { x.night = 9 }), api.ErrNone, "InForce")
	great := repeat(post(0, 0, 1, 2, api.MaxAmount), 2)
	allFail(t, "an amount", with(func(x *args) { x.old = great }), api.ErrLimit, "Settle")
	allFail(t, "a correction", with(func(x *args) { x.old = manyPostings(api.MaxPostings) }), api.ErrLimit, "Correct")
	if got, e := rates.Night(greatPolicy(), api.MaxNight, slices.Repeat(exampleRounds(), 2)); e != api.ErrTwice || len(got) > 0 {
		t.Error("Night", got, e)
	}
}
