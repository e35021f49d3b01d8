package rates

import (
	"iter"
	"slices"

	"patrol/api"
)

// checkNights returns the error of a span of nights.
func checkNights(x api.Span) api.Errno {
	switch {
	case x.Lo > x.Hi || !isNight(x.Lo) || !isNight(x.Hi):
		return api.ErrArg
	case x.Hi-x.Lo >= api.MaxNights:
		return api.ErrLimit
	}
	return api.OK
}

// checkSeason returns the first error of policies, rounds, and a span of nights.
func checkSeason(ps []api.Policy, l []api.Round, nights api.Span) api.Errno {
	if e, _ := CheckPolicies(ps); e != api.OK {
		return e
	}
	if e, _ := CheckRounds(l); e != api.OK {
		return e
	}
	return checkNights(nights)
}

// purse is a policy in a night, with what is left of its Cap for credits, and for charges.
type purse struct {
	api.Policy
	credits, charges int
}

// credit returns the postings of a certified round; some of them can have the Amount 0.
func (s *purse) credit(r api.Round) []api.Posting {
	c := min(s.Credit, s.credits)
	s.credits -= c
	l := []api.Posting{{Night: r.Night, No: r.No, From: api.AcInsurer, To: api.AcHouse, Amount: c}}
	parts, _ := Split(c*s.Bonus/api.Mille, slices.Repeat([]int{1}, len(r.Crew)))
	for k, part := range parts {
		l = append(l, api.Posting{Night: r.Night, No: r.No, From: api.AcHouse, To: r.Crew[k], Amount: part})
	}
	return l
}

// charge returns the posting of a round that is not certified, for which the house has to give an amount if the Cap allows it; it can have the Amount 0.
func (s *purse) charge(r api.Round, amount int) []api.Posting {
	d := min(amount, s.charges)
	s.charges -= d
	return []api.Posting{{Night: r.Night, No: r.No, From: api.AcHouse, To: api.AcInsurer, Amount: d}}
}

// ofRound returns the postings of a round; some of them can have the Amount 0.
func (s *purse) ofRound(r api.Round) []api.Posting {
	switch r.Kind {
	case api.VeCertified:
		return s.credit(r)
	case api.VeFailed:
		return s.charge(r, s.Charge)
	}
	return s.charge(r, s.Doubt)
}

// ofNight yields the postings of a night, for a policy and those of some rounds that have this night.
func ofNight(p api.Policy, night int, l []api.Round) iter.Seq[api.Posting] {
	return func(yield func(x api.Posting) bool) {
		post := func(group []api.Posting) bool {
			for _, x := range group {
				if x.Amount > 0 && !yield(x) {
					return false
				}
			}
			return true
		}
		if !post([]api.Posting{{Night: night, From: api.AcHouse, To: api.AcInsurer, Amount: p.Base}}) {
			return
		}
		left := purse{Policy: p, credits: p.Cap, charges: p.Cap}
		for _, r := range l {
			if r.Night == night && !post(left.ofRound(r)) {
				return
			}
		}
	}
}

// season returns the postings of a span of nights.
func season(ps []api.Policy, l []api.Round, nights api.Span) []api.Posting {
	var all []api.Posting
	for night := nights.Lo; night <= nights.Hi; night++ {
		p, is := inForce(ps, night)
		if !is {
			continue
		}
		for x := range ofNight(p, night, l) {
			all = append(all, x)
		}
	}
	return all
}

// Night returns the postings of a night.
func Night(p api.Policy, night int, l []api.Round) ([]api.Posting, api.Errno) {
	if e, _ := CheckPolicies([]api.Policy{p}); e != api.OK {
		return nil, e
	}
	if e, _ := CheckRounds(l); e != api.OK {
		return nil, e
	}
	if !isNight(night) {
		return nil, api.ErrArg
	}
	return slices.Collect(ofNight(p, night, l)), api.OK
}

// Season returns the postings of some nights.
func Season(ps []api.Policy, l []api.Round, nights api.Span) ([]api.Posting, api.Errno) {
	if e := checkSeason(ps, l, nights); e != api.OK {
		return nil, e
	}
	return season(ps, l, nights), api.OK
}

// Rests returns the rounds whose postings would be others without one round.
func Rests(ps []api.Policy, l []api.Round, nights api.Span, which int) ([][2]int, api.Errno) {
	if e := checkSeason(ps, l, nights); e != api.OK {
		return nil, e
	}
	if !isIn(which, 0, len(l)-1) {
		return nil, api.ErrArg
	}
	others := slices.Concat(l[:which], l[which+1:])
	return differing(groupsOf(season(ps, l, nights)), groupsOf(season(ps, others, nights))), api.OK
}

// Outlook returns the least and the greatest amount that the house can have to give.
func Outlook(ps []api.Policy, l []api.Round, nights api.Span) (api.Span, api.Errno) {
	if e := checkSeason(ps, l, nights); e != api.OK {
		return api.Span{}, e
	}
	given := func(certified bool) int {
		decided, _ := decide(l, func(int) bool { return certified })
		return -balancesOf(season(ps, decided, nights))[api.AcHouse]
	}
	// Which rounds of a night get which credits depends on their order, but the credits alone on how many are certified. One more of these adds a credit, of which the house gives its crew no more than all, and one failed round less can only lessen the charges.
	return api.Span{Lo: given(true), Hi: given(false)}, api.OK
}
