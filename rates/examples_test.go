package rates_test

import (
	"slices"
	"testing"

	"patrol/api"
	"patrol/rates"
)

func TestExamplesOfNights(t *testing.T) {
	l, e := rates.Night(examplePolicy(), 12, exampleRounds())
	same(t, "Night", l, examplePostings(), e)
	textual(t, l, "12 0 -1 -2 500\n12 1 -2 -1 40\n12 1 -1 7 10\n12 2 -2 -1 20\n12 2 -1 7 3\n12 2 -1 9 2\n12 3 -1 -2 60\n")
	l, e = rates.Season(policies(examplePolicy()), exampleRounds(), span(0, 9))
	same(t, "Season", l, nil, e)
	l, e = rates.Season(policies(examplePolicy()), exampleRounds(), span(12, 12))
	same(t, "Season", l, examplePostings(), e)
}

func TestExamplesOfSplit(t *testing.T) {
	split(t, 5, []int{1, 1}, []int{3, 2})
	split(t, 10, []int{1, 1, 1}, []int{4, 3, 3})
	split(t, 7, []int{0, 5, 2}, []int{0, 5, 2})
	split(t, 1, []int{1, 2}, []int{0, 1})
}

func TestExamplesOfBalances(t *testing.T) {
	l := examplePostings()
	for account, want := range map[int]int{-1: -515, -2: 500, 7: 13, 9: 2} {
		if n, e := rates.Balance(l, account); n != want || e != api.OK {
			t.Error("Balance", account, n, e)
		}
	}
	all, e := rates.Balances(l)
	same(t, "Balances", all, changes(-2, 500, -1, -515, 7, 13, 9, 2), e)
	settled(t, l, post(0, 0, -2, -1, 500), post(0, 0, 7, -1, 13), post(0, 0, 9, -1, 2))
}

func TestExamplesOfCorrections(t *testing.T) {
	failed := exampleRounds()
	failed[0].Kind = api.VeFailed
	now, e := rates.Night(examplePolicy(), 12, failed)
	same(t, "Night", now, postings(post(12, 0, -1, -2, 500), post(12, 1, -1, -2, 60), post(12, 2, -2, -1, 40), post(12, 2, -1, 7, 5), post(12, 2, -1, 9, 5)), e)
	want := postings(
		post(12, 1, -1, -2, 40), post(12, 1, 7, -1, 10), post(12, 1, -1, -2, 60),
		post(12, 2, -1, -2, 20), post(12, 2, 7, -1, 3), post(12, 2, 9, -1, 2), post(12, 2, -2, -1, 40), post(12, 2, -1, 7, 5), post(12, 2, -1, 9, 5),
		post(12, 3, -2, -1, 60),
	)
	corrected(t, examplePostings(), now, want...)
	names, e := rates.Rests(policies(examplePolicy()), exampleRounds(), span(12, 12), 0)
	same(t, "Rests", names, [][2]int{{12, 1}, {12, 2}}, e)
	outlook(t, policies(examplePolicy()), exampleRounds(), span(12, 12), span(515, 515))
}

// TestExampleOfTheWhole is the eighth example of DOC.md.
func TestExampleOfTheWhole(t *testing.T) {
	ps := policies(api.Policy{Base: 500, Credit: 40, Cap: 40, Bonus: 250})
	old := season(t, ps, rounds(round(3, 1, api.VeDoubtful, 9)), span(0, 9))
	now := season(t, ps, rounds(round(3, 1, api.VeCertified, 9)), span(0, 9))
	corrected(t, old, now, post(3, 1, -2, -1, 40), post(3, 1, -1, 9, 10))
	moved, e := rates.Moved(old, now)
	same(t, "Moved", moved, changes(-2, -40, -1, 30, 9, 10), e)
	if back, e := rates.Correct(now, old); e != api.OK || !slices.Equal(back, postings(post(3, 1, -1, -2, 40), post(3, 1, 9, -1, 10))) {
		t.Error("Correct", back, e)
	}
}
