package rates_test

import (
	"slices"
	"testing"

	"patrol/api"
	"patrol/rates"
)

const (
	maxInt = 1<<63 - 1
	minInt = -1 << 63
)

// chance is a generator of numbers that are the same in each run.
type chance uint64

// n returns a number from 0 to limit - 1.
func (c *chance) n(limit int) int {
	*c = *c*6364136223846793005 + 1442695040888963407
	return int(uint64(*c)>>33) % limit
}

// from returns a number from lo to hi.
func (c *chance) from(lo, hi int) int { return lo + c.n(hi-lo+1) }

func (c *chance) pick(l ...int) int { return l[c.n(len(l))] }

func span(lo, hi int) api.Span { return api.Span{Lo: lo, Hi: hi} }

func round(night, no, kind int, crew ...int) api.Round {
	return api.Round{Night: night, No: no, Kind: kind, Crew: crew}
}

func rounds(l ...api.Round) []api.Round { return l }

func policies(l ...api.Policy) []api.Policy { return l }

func post(night, no, from, to, amount int) api.Posting {
	return api.Posting{Night: night, No: no, From: from, To: to, Amount: amount}
}

func postings(l ...api.Posting) []api.Posting { return l }

// changes returns amounts, of which an account and the pence are given each.
func changes(l ...int) []api.Change {
	var c []api.Change
	for k := 0; k < len(l); k += 2 {
		c = append(c, api.Change{Account: l[k], Pence: l[k+1]})
	}
	return c
}

// examplePolicy is the policy p of the chapter's examples, exampleRounds are its rounds, and examplePostings what Night returns.
func examplePolicy() api.Policy {
	return api.Policy{Since: 10, Base: 500, Credit: 40, Charge: 100, Doubt: 30, Cap: 60, Bonus: 250}
}

func exampleRounds() []api.Round {
	return rounds(round(12, 1, api.VeCertified, 7), round(12, 2, api.VeCertified, 7, 9), round(12, 3, api.VeFailed, 9), round(12, 4, api.VeDoubtful, 9))
}

func examplePostings() []api.Posting {
	return postings(post(12, 0, -1, -2, 500), post(12, 1, -2, -1, 40), post(12, 1, -1, 7, 10), post(12, 2, -2, -1, 20), post(12, 2, -1, 7, 3), post(12, 2, -1, 9, 2), post(12, 3, -1, -2, 60))
}

// greatPolicy has the greatest numbers.
func greatPolicy() api.Policy {
	const most = api.MaxPence
	return api.Policy{Since: api.MaxNight, Base: most, Credit: most, Charge: most, Doubt: most, Cap: most, Bonus: api.Mille}
}

// manyPolicies returns n policies, one for each night from 0 on; they are valid.
func manyPolicies(n int) []api.Policy {
	l := make([]api.Policy, n)
	for k := range l {
		l[k] = api.Policy{Since: k, Base: k + 1}
	}
	return l
}

// manyRounds returns n rounds, of as few nights as can be; they are valid.
func manyRounds(n, kind int) []api.Round {
	l := make([]api.Round, n)
	for k := range l {
		l[k] = round(k/api.MaxRounds, k%api.MaxRounds+1, kind, 3, 5, 8, 13)
	}
	return l
}

// manyPostings returns n postings, of as few nights as can be; they are valid.
func manyPostings(n int) []api.Posting {
	l := make([]api.Posting, n)
	for k := range l {
		l[k] = post(k/api.MaxRounds, k%api.MaxRounds+1, 1, 2, k+1)
	}
	return l
}

// repeat returns a list of n times the same posting.
func repeat(x api.Posting, n int) []api.Posting { return slices.Repeat(postings(x), n) }

func same[T comparable](t *testing.T, what string, got, want []T, e api.Errno) {
	t.Helper()
	if !slices.Equal(got, want) || e != api.OK {
		t.Errorf("%s: %v %d, not %v", what, got, e, want)
	}
}

// isSameRound reports whether two rounds are the same.
func isSameRound(a, b api.Round) bool {
	return a.Night == b.Night && a.No == b.No && a.Kind == b.Kind && slices.Equal(a.Crew, b.Crew)
}

func sameRounds(t *testing.T, what string, got, want []api.Round, e api.Errno) {
	t.Helper()
	if !slices.EqualFunc(got, want, isSameRound) || e != api.OK {
		t.Errorf("%s: %v %d, not %v", what, got, e, want)
	}
}

// copyOf returns rounds with memory of their own.
func copyOf(l []api.Round) []api.Round {
	l = slices.Clone(l)
	for k, r := range l {
		l[k].Crew = slices.Clone(r.Crew)
	}
	return l
}

// policy returns a policy that is in force since a night, with small numbers, so that its bounds are often attained.
func (c *chance) policy(since int) api.Policy {
	p := api.Policy{Since: since, Base: c.pick(0, c.n(9), 100, 300, 999), Credit: c.pick(0, 1, c.n(100), 100, 999), Charge: c.pick(0, 2, c.n(100), 100), Doubt: c.pick(0, 1, c.n(50)), Bonus: c.pick(0, 1, 250, c.n(1000), 999, api.Mille)}
	p.Cap = c.pick(0, p.Base/2, c.from(0, p.Base), p.Base)
	return p
}

// policies returns policies of nights from lo to hi.
func (c *chance) policies(lo, hi int) []api.Policy {
	var l []api.Policy
	for night := lo; night <= hi && len(l) < api.MaxPolicies; night++ {
		if c.n(4) == 0 {
			l = append(l, c.policy(night))
		}
	}
	return l
}

func (c *chance) crew() []int {
	var l []int
	id := 0
	for range c.from(1, api.MaxCrew) {
		id += c.from(1, 3)
		l = append(l, id)
	}
	return l
}

// rounds returns rounds of nights from lo to hi, of some of them as many as there may be.
func (c *chance) rounds(lo, hi int) []api.Round {
	var l []api.Round
	for night := lo; night <= hi; night++ {
		every := c.from(1, 6)
		for no := 1; no <= api.MaxRounds && len(l) < api.MaxSeason; no++ {
			if c.n(every) == 0 {
				kind := c.pick(api.VeCertified, api.VeDoubtful, api.VeFailed, api.VeVoid, api.VeCertified)
				l = append(l, api.Round{Night: night, No: no, Kind: kind, Crew: c.crew()})
			}
		}
	}
	return l
}

// posting returns a valid posting of a night from 0 to nights - 1 between one of a few accounts and another one.
func (c *chance) posting(nights int) api.Posting {
	from, to := 0, 0
	for from == to {
		from, to = c.pick(-2, -1, 1, 2, 3, api.MaxID), c.pick(-2, -1, 1, 2, 4, api.MaxID)
	}
	return post(c.n(nights), c.n(4), from, to, c.pick(1, c.from(1, 5), c.from(1, 1000), api.MaxAmount))
}

// postings returns up to n postings.
func (c *chance) postings(n, nights int) []api.Posting {
	var l []api.Posting
	for range c.n(n + 1) {
		l = append(l, c.posting(nights))
	}
	return l
}

// change returns a list of which some elements are left out, doubled, changed, or in another order.
func (c *chance) change(l []api.Posting, nights int) []api.Posting {
	var other []api.Posting
	for _, x := range l {
		switch c.n(12) {
		case 0:
			continue
		case 1:
			other = append(other, x)
		case 2:
			x.Amount = c.from(1, 50)
		case 3:
			x = c.posting(nights)
		}
		other = append(other, x)
	}
	for k := 1; k < len(other); k++ {
		if c.n(6) == 0 {
			other[k-1], other[k] = other[k], other[k-1]
		}
	}
	return other
}

// outcome is what a call returned: its error, and whether all other results were zero.
type outcome struct {
	e    api.Errno
	zero bool
}

// args are arguments of the functions.
type args struct {
	ps                                []api.Policy
	p                                 api.Policy
	l                                 []api.Round
	certified                         []bool
	old, now                          []api.Posting
	nights                            api.Span
	night, amount, account, id, which int
	weights                           []int
}

// rightArgs are those of the chapter's examples.
func rightArgs() args {
	return args{ps: policies(examplePolicy()), p: examplePolicy(), l: exampleRounds(), certified: []bool{true}, old: examplePostings(), now: postings(post(12, 1, 3, 4, 5)), nights: span(12, 12), night: 12, amount: 5, account: 7, id: 7, which: 0, weights: []int{1, 1}}
}

// with returns the arguments of the examples, changed.
func with(change func(x *args)) args {
	x := rightArgs()
	change(&x)
	return x
}

// calls returns the outcome of each function but the checks and Parse.
func calls(x args) map[string]outcome {
	m := map[string]outcome{}
	put := func(name string, e api.Errno, zero bool) { m[name] = outcome{e, zero} }
	p, e := rates.InForce(x.ps, x.night)
	put("InForce", e, p == api.Policy{})
	l, e := rates.Decide(x.l, x.certified)
	put("Decide", e, len(l) == 0)
	parts, e := rates.Split(x.amount, x.weights)
	put("Split", e, len(parts) == 0)
	posted, e := rates.Night(x.p, x.night, x.l)
	put("Night", e, len(posted) == 0)
	posted, e = rates.Season(x.ps, x.l, x.nights)
	put("Season", e, len(posted) == 0)
	n, e := rates.Balance(x.old, x.account)
	put("Balance", e, n == 0)
	all, e := rates.Balances(x.old)
	put("Balances", e, len(all) == 0)
	posted, e = rates.Settle(x.old)
	put("Settle", e, len(posted) == 0)
	posted, e = rates.Correct(x.old, x.now)
	put("Correct", e, len(posted) == 0)
	all, e = rates.Moved(x.old, x.now)
	put("Moved", e, len(all) == 0)
	names, e := rates.Rests(x.ps, x.l, x.nights, x.which)
	put("Rests", e, len(names) == 0)
	s, e := rates.Outlook(x.ps, x.l, x.nights)
	put("Outlook", e, s == api.Span{})
	parts, e = rates.Earned(x.old, x.id, x.nights)
	put("Earned", e, len(parts) == 0)
	text, e := rates.Print(x.old)
	put("Print", e, text == "")
	return m
}

// allFail checks that some functions return an error, and nothing else.
func allFail(t *testing.T, what string, x args, e api.Errno, names ...string) {
	t.Helper()
	m := calls(x)
	for _, name := range names {
		if got, is := m[name]; got.e != e || !got.zero || !is {
			t.Error(what, name, got, e)
		}
	}
}
