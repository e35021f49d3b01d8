package rates_test

import (
	"slices"
	"testing"

	"patrol/api"
	"patrol/rates"
)

// sumOf returns the sum of all Amounts that an account gives another one for the rounds, and not for the night.
func sumOf(l []api.Posting, from, to int) int {
	sum := 0
	for _, x := range l {
		if x.No > 0 && x.From == from && x.To == to {
			sum += x.Amount
		}
	}
	return sum
}

// nightAsDefined returns the postings of a night by the chapter's definition, which looks back at all postings so far.
func nightAsDefined(p api.Policy, night int, l []api.Round) []api.Posting {
	var all []api.Posting
	add := func(no, from, to, amount int) {
		if amount > 0 {
			all = append(all, post(night, no, from, to, amount))
		}
	}
	add(0, api.AcHouse, api.AcInsurer, p.Base)
	for _, r := range l {
		charge := map[int]int{api.VeFailed: p.Charge, api.VeDoubtful: p.Doubt, api.VeVoid: p.Doubt}
		switch {
		case r.Night != night:
		case r.Kind == api.VeCertified:
			c := min(p.Credit, p.Cap-sumOf(all, api.AcInsurer, api.AcHouse))
			add(r.No, api.AcInsurer, api.AcHouse, c)
			ones := slices.Repeat([]int{1}, len(r.Crew))
			for k, part := range splitAsDefined(c*p.Bonus/1000, ones) {
				add(r.No, api.AcHouse, r.Crew[k], part)
			}
		default:
			add(r.No, api.AcHouse, api.AcInsurer, min(charge[r.Kind], p.Cap-sumOf(all, api.AcHouse, api.AcInsurer)))
		}
	}
	return all
}

// seasonAsDefined returns the postings of some nights by the chapter's definition.
func seasonAsDefined(ps []api.Policy, l []api.Round, nights api.Span) []api.Posting {
	var all []api.Posting
	for night := nights.Lo; night <= nights.Hi; night++ {
		since := -1
		for k, p := range ps {
			if p.Since <= night && (since < 0 || p.Since > ps[since].Since) {
				since = k
			}
		}
		if since >= 0 {
			all = append(all, nightAsDefined(ps[since], night, l)...)
		}
	}
	return all
}

func night(t *testing.T, p api.Policy, n int, l []api.Round, want ...api.Posting) {
	t.Helper()
	got, e := rates.Night(p, n, l)
	same(t, "Night", got, want, e)
}

func TestP7_5Kinds(t *testing.T) {
	p := api.Policy{Since: 90, Base: 100, Credit: 10, Charge: 20, Doubt: 5, Cap: 100, Bonus: 500}
	kinds := rounds(round(7, 2, api.VeCertified, 4), round(7, 5, api.VeDoubtful, 4), round(7, 6, api.VeFailed, 4), round(7, 12, api.VeVoid, 4))
	night(t, p, 7, kinds, post(7, 0, -1, -2, 100), post(7, 2, -2, -1, 10), post(7, 2, -1, 4, 5), post(7, 5, -1, -2, 5), post(7, 6, -1, -2, 20), post(7, 12, -1, -2, 5))
	night(t, p, 8, kinds, post(8, 0, -1, -2, 100))
	night(t, p, 7, nil, post(7, 0, -1, -2, 100))
	night(t, p, 0, rounds(round(0, 1, api.VeFailed, 1), round(7, 1, api.VeFailed, 1)), post(0, 0, -1, -2, 100), post(0, 1, -1, -2, 20))
	night(t, p, api.MaxNight, rounds(round(0, 1, api.VeFailed, 1), round(api.MaxNight, 1, api.VeFailed, 1)), post(api.MaxNight, 0, -1, -2, 100), post(api.MaxNight, 1, -1, -2, 20))
	night(t, api.Policy{}, 7, kinds)
	night(t, api.Policy{Base: 9}, 7, kinds, post(7, 0, -1, -2, 9))
	night(t, api.Policy{Base: 9, Cap: 9}, 7, kinds, post(7, 0, -1, -2, 9))
	night(t, api.Policy{Base: 9, Credit: 3, Charge: 3, Doubt: 3, Bonus: 999}, 7, kinds, post(7, 0, -1, -2, 9)) // the Cap is 0
	night(t, api.Policy{Base: 9, Cap: 9, Doubt: 2}, 7, kinds, post(7, 0, -1, -2, 9), post(7, 5, -1, -2, 2), post(7, 12, -1, -2, 2))
	night(t, api.Policy{Base: 9, Cap: 9, Charge: 2}, 7, kinds, post(7, 0, -1, -2, 9), post(7, 6, -1, -2, 2))
	night(t, api.Policy{Base: 9, Cap: 9, Bonus: 1000}, 7, kinds, post(7, 0, -1, -2, 9)) // no credit, no bonus
}

func TestP7_5Caps(t *testing.T) {
	p := api.Policy{Base: 100, Credit: 10, Charge: 7, Doubt: 4, Cap: 25, Bonus: 0}
	base := post(7, 0, -1, -2, 100)
	certified := rounds(round(7, 1, api.VeCertified, 4), round(7, 2, api.VeCertified, 4), round(7, 3, api.VeCertified, 4), round(7, 4, api.VeCertified, 4))
	night(t, p, 7, certified, base, post(7, 1, -2, -1, 10), post(7, 2, -2, -1, 10), post(7, 3, -2, -1, 5))
	charged := rounds(round(7, 1, api.VeFailed, 4), round(7, 2, api.VeDoubtful, 4), round(7, 3, api.VeFailed, 4), round(7, 4, api.VeVoid, 4), round(7, 5, api.VeFailed, 4), round(7, 6, api.VeVoid, 4))
	night(t, p, 7, charged, base, post(7, 1, -1, -2, 7), post(7, 2, -1, -2, 4), post(7, 3, -1, -2, 7), post(7, 4, -1, -2, 4), post(7, 5, -1, -2, 3))
	// Credits and charges have a Cap each, of which what the crew gets is no part.
	p.Cap, p.Bonus = 10, 1000
	night(t, p, 7, rounds(round(7, 1, api.VeFailed, 4), round(7, 2, api.VeCertified, 4), round(7, 3, api.VeFailed, 5), round(7, 4, api.VeCertified, 4), round(7, 5, api.VeVoid, 5)), base, post(7, 1, -1, -2, 7), post(7, 2, -2, -1, 10), post(7, 2, -1, 4, 10), post(7, 3, -1, -2, 3))
	// Each night has a Cap of its own.
	got, e := rates.Season(policies(p), rounds(round(7, 1, api.VeFailed, 4), round(7, 2, api.VeFailed, 4), round(8, 1, api.VeFailed, 4)), span(7, 8))
	same(t, "Season", got, postings(base, post(7, 1, -1, -2, 7), post(7, 2, -1, -2, 3), post(8, 0, -1, -2, 100), post(8, 1, -1, -2, 7)), e)
	// The greatest numbers.
	const most = api.MaxPence
	night(t, greatPolicy(), 7, rounds(round(7, 1, api.VeCertified, 4, 5, 6), round(7, 2, api.VeFailed, 4), round(7, 3, api.VeVoid, 4), round(7, 4, api.VeCertified, 4)), post(7, 0, -1, -2, most), post(7, 1, -2, -1, most), post(7, 1, -1, 4, 333334), post(7, 1, -1, 5, 333333), post(7, 1, -1, 6, 333333), post(7, 2, -1, -2, most))
}

func TestP7_5Crews(t *testing.T) {
	p := api.Policy{Base: 100, Credit: 9, Cap: 100}
	for bonus, want := range map[int][]int{0: {0, 0, 0}, 111: {0, 0, 0}, 112: {1, 0, 0}, 222: {1, 0, 0}, 223: {1, 1, 0}, 334: {1, 1, 1}, 500: {2, 1, 1}, 556: {2, 2, 1}, 999: {3, 3, 2}, 1000: {3, 3, 3}} {
		p.Bonus = bonus
		l := postings(post(7, 0, -1, -2, 100), post(7, 3, -2, -1, 9))
		for k, part := range want {
			if part > 0 {
				l = append(l, post(7, 3, -1, []int{4, 6, api.MaxID}[k], part))
			}
		}
		night(t, p, 7, rounds(round(7, 3, api.VeCertified, 4, 6, api.MaxID)), l...)
	}
	// The bonus is that of what the Cap leaves.
	p = api.Policy{Base: 100, Credit: 9, Cap: 5, Bonus: 500}
	night(t, p, 7, rounds(round(7, 3, api.VeCertified, 4)), post(7, 0, -1, -2, 100), post(7, 3, -2, -1, 5), post(7, 3, -1, 4, 2))
}

func TestP7_5Seasons(t *testing.T) {
	ps := policies(api.Policy{Since: 3, Base: 1}, api.Policy{Since: 5}, api.Policy{Since: 6, Base: 2, Charge: 1, Cap: 2})
	l := rounds(round(2, 1, api.VeFailed, 1), round(6, 1, api.VeFailed, 1), round(9, 1, api.VeFailed, 1))
	season := func(nights api.Span, want ...api.Posting) {
		t.Helper()
		got, e := rates.Season(ps, l, nights)
		same(t, "Season", got, want, e)
	}
	season(span(0, 2))
	season(span(5, 5))
	season(span(3, 3), post(3, 0, -1, -2, 1))
	season(span(0, 7), post(3, 0, -1, -2, 1), post(4, 0, -1, -2, 1), post(6, 0, -1, -2, 2), post(6, 1, -1, -2, 1), post(7, 0, -1, -2, 2))
	got, e := rates.Season(nil, l, span(0, 7))
	same(t, "Season", got, nil, e)
	got, e = rates.Season(ps, l, span(0, api.MaxNights-1))
	if last := post(api.MaxNights-1, 0, -1, -2, 2); e != api.OK || len(got) != 2+(api.MaxNights-6)+2 || got[len(got)-1] != last {
		t.Error("Season", got, e)
	}
	got, e = rates.Season(ps, l, span(api.MaxNight, api.MaxNight))
	same(t, "Season", got, postings(post(api.MaxNight, 0, -1, -2, 2)), e)
	// As many postings as there can be: they are a valid list.
	p := api.Policy{Base: api.MaxPence, Credit: 100, Cap: api.MaxPence, Bonus: 500}
	got, e = rates.Season(policies(p), manyRounds(api.MaxSeason, api.VeCertified), span(0, api.MaxNights-1))
	if e != api.OK || len(got) != api.MaxNights+5*api.MaxSeason {
		t.Error("Season", len(got), e)
	}
	checkedPostings(t, api.OK, -1, got...)
}

// TestP7_5 compares nights and seasons with the chapter's definitions.
func TestP7_5(t *testing.T) {
	r := chance(5)
	for range 3000 {
		lo := r.pick(0, 1, 50, api.MaxNight-6)
		l, p := r.rounds(lo, lo+6), r.policy(r.n(100))
		for n := lo; n <= lo+6; n++ {
			night(t, p, n, l, nightAsDefined(p, n, l)...)
		}
		ps, nights := r.policies(lo, lo+6), span(lo+r.n(3), lo+r.from(3, 6))
		got, e := rates.Season(ps, l, nights)
		same(t, "Season", got, seasonAsDefined(ps, l, nights), e)
		checkedPostings(t, api.OK, -1, got...)
		for _, p := range ps {
			if q, e := rates.InForce(ps, p.Since); q != p || e != api.OK {
				t.Error("InForce", ps, p.Since, q, e)
			}
		}
	}
}
