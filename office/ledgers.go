package office

import (
	"cmp"
	"maps"
	"slices"

	"patrol/api"
	"patrol/rates"
)

// roundFiles returns the files of the dials of which rounds are taken, in the order of the rounds; ErrLimit if they are too many.
func (v view) roundFiles() ([]file, api.Errno) {
	type name struct{ night, round int }
	taken := map[name]bool{}
	var l []file
	for x := range v.files() {
		n := name{x.dial.Dial.Night, x.dial.Dial.Round}
		if !taken[n] {
			taken[n] = true
			l = append(l, x)
		}
	}
	if len(l) > api.MaxSeason {
		return nil, api.ErrLimit
	}
	slices.SortFunc(l, func(x, y file) int {
		a, b := x.dial.Dial, y.dial.Dial
		return cmp.Or(cmp.Compare(a.Night, b.Night), cmp.Compare(a.Round, b.Round))
	})
	return l, api.OK
}

// rounds returns the rounds of the dials of some nights.
func (v view) rounds(nights api.Span) ([]api.Round, api.Errno) {
	files, e := v.roundFiles()
	if e != api.OK {
		return nil, e
	}
	var l []api.Round
	for _, x := range files {
		d, kind := x.dial.Dial, api.VeDoubtful
		if !isIn(d.Night, nights.Lo, nights.Hi) {
			continue
		}
		if j := x.judge(); j.State == api.DiJudged {
			kind = j.Kind
		}
		l = append(l, api.Round{Night: d.Night, No: d.Round, Kind: kind, Crew: slices.Clone(d.Crew)})
	}
	return l, api.OK
}

// Rounds returns the rounds of all dials, as it is known at a time.
func Rounds(l []api.Fact, known int) ([]api.Round, api.Errno) {
	if e := check(l, known); e != api.OK {
		return nil, e
	}
	return newView(l, known).rounds(api.Span{Hi: api.MaxNight})
}

// policyList returns the policies.
func (v view) policyList() ([]api.Policy, api.Errno) {
	if len(v.policies) > api.MaxPolicies {
		return nil, api.ErrLimit
	}
	var l []api.Policy
	for _, since := range slices.Sorted(maps.Keys(v.policies)) {
		l = append(l, v.policies[since].Policy)
	}
	return l, api.OK
}

// Policies returns the policies, as it is known at a time.
func Policies(l []api.Fact, known int) ([]api.Policy, api.Errno) {
	if e := check(l, known); e != api.OK {
		return nil, e
	}
	return newView(l, known).policyList()
}

// ledger returns the postings of some nights.
func (v view) ledger(nights api.Span) ([]api.Posting, api.Errno) {
	policies, e := v.policyList()
	if e != api.OK {
		return nil, e
	}
	// Rounds of other nights do not matter; so they need not be judged.
	rounds, e := v.rounds(nights)
	if e != api.OK {
		return nil, e
	}
	return rates.Season(policies, rounds, nights)
}

// Ledger returns the postings of some nights, as it is known at a time.
func Ledger(l []api.Fact, known int, nights api.Span) ([]api.Posting, api.Errno) {
	if e := check(l, known); e != api.OK {
		return nil, e
	}
	return newView(l, known).ledger(nights)
}

// Amend returns the postings that correct the ledger of one time to that of another one.
func Amend(l []api.Fact, before, after int, nights api.Span) ([]api.Posting, api.Errno) {
	if e := check(l, before, after); e != api.OK {
		return nil, e
	}
	old, e := newView(l, before).ledger(nights)
	if e != api.OK {
		return nil, e
	}
	now, e := newView(l, after).ledger(nights)
	if e != api.OK {
		return nil, e
	}
	return rates.Correct(old, now)
}

// Book returns the custody book, as it is known at a time.
func Book(l []api.Fact, known int) (api.Custody, api.Errno) {
	if e := check(l, known); e != api.OK {
		return api.Custody{}, e
	}
	f, is := newView(l, known).books[api.FaCustody]
	if !is {
		return api.Custody{}, api.ErrNone
	}
	return copyOfCustody(f.Custody), api.OK
}

// names returns the names of the facts of a file, and so all that can make a difference for its dial.
func (x file) names() []api.Name {
	names := []api.Name{nameOf(x.dial), nameOf(x.setting)}
	for _, f := range x.looks {
		names = append(names, nameOf(f))
	}
	return names
}

// differs reports whether two views judge the dial with a number differently.
func differs(a, b view, no int) bool {
	x, isA := a.file(no)
	y, isB := b.file(no)
	if !isA || !isB {
		return isA != isB
	}
	// Most dials do not rest on a fact; they need not be judged.
	return !slices.Equal(x.names(), y.names()) && x.judge() != y.judge()
}

// Rests returns the numbers of the dials for which something else would follow without a fact.
func Rests(l []api.Fact, known int, n api.Name) ([]int, api.Errno) {
	if e := check(l, known); e != api.OK {
		return nil, e
	}
	has := func(f api.Fact) bool { return nameOf(f) == n }
	if !slices.ContainsFunc(l, func(f api.Fact) bool { return has(f) && f.Known <= known }) {
		return nil, api.ErrNone
	}
	with, without := newView(l, known), newView(slices.DeleteFunc(slices.Clone(l), has), known)
	// Without a withdrawal there can be more dials.
	numbers := maps.Clone(with.dials)
	maps.Copy(numbers, without.dials)
	var rest []int
	for _, no := range slices.Sorted(maps.Keys(numbers)) {
		if differs(with, without, no) {
			rest = append(rest, no)
		}
	}
	return rest, api.OK
}
