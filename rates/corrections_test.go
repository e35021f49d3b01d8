package rates_test

import (
	"slices"
	"testing"

	"patrol/api"
	"patrol/rates"
)

// groupOf returns the postings of a list that have a night and a No, in their order.
func groupOf(l []api.Posting, night, no int) []api.Posting {
	return slices.DeleteFunc(slices.Clone(l), func(x api.Posting) bool { return x.Night != night || x.No != no })
}

// differingAsDefined returns the names of the groups in which two lists of the nights up to hi differ.
func differingAsDefined(a, b []api.Posting, hi int) [][2]int {
	var names [][2]int
	for night := range hi + 1 {
		for no := range api.MaxRounds + 1 {
			if !slices.Equal(groupOf(a, night, no), groupOf(b, night, no)) {
				names = append(names, [2]int{night, no})
			}
		}
	}
	return names
}

// correctAsDefined returns what Correct has to return for lists of the nights up to hi.
func correctAsDefined(old, now []api.Posting, hi int) []api.Posting {
	var l []api.Posting
	for _, name := range differingAsDefined(old, now, hi) {
		for _, x := range groupOf(old, name[0], name[1]) {
			l = append(l, post(x.Night, x.No, x.To, x.From, x.Amount))
		}
		l = append(l, groupOf(now, name[0], name[1])...)
	}
	return l
}

// movedAsDefined returns what Moved has to return.
func movedAsDefined(old, now []api.Posting) []api.Change {
	var c []api.Change
	for _, account := range accountsOf(slices.Concat(old, now)...) {
		if n := balanceAsDefined(now, account) - balanceAsDefined(old, account); n != 0 {
			c = append(c, api.Change{Account: account, Pence: n})
		}
	}
	return c
}

func corrected(t *testing.T, old, now []api.Posting, want ...api.Posting) {
	t.Helper()
	got, e := rates.Correct(old, now)
	same(t, "Correct", got, want, e)
}

func TestP7_9(t *testing.T) {
	a, b, c := post(5, 1, 1, 2, 3), post(5, 1, 2, 3, 4), post(5, 1, 3, 1, 9)
	backA, backB := post(5, 1, 2, 1, 3), post(5, 1, 3, 2, 4)
	corrected(t, nil, nil)
	corrected(t, nil, postings(a, b), a, b)
	corrected(t, postings(a, b), nil, backA, backB)
	corrected(t, postings(a, b), postings(a, b))
	corrected(t, postings(a, b), postings(b, a), backA, backB, b, a) // the order in a group matters
	corrected(t, postings(a, b), postings(a), backA, backB, a)
	corrected(t, postings(a), postings(a, b), backA, a, b)
	corrected(t, postings(a), postings(a, a), backA, a, a)
	corrected(t, postings(a, b), postings(a, c), backA, backB, a, c)
	for _, x := range postings(post(5, 1, 1, 2, 4), post(5, 1, 2, 1, 3), post(5, 1, 1, 3, 3), post(5, 1, 3, 2, 3)) {
		corrected(t, postings(a), postings(x), backA, x)
	}
	// Groups come in the order of their names, whatever the order of the lists is, which does not matter between groups.
	d, e, f := post(5, 0, 1, 2, 3), post(4, 12, 1, 2, 3), post(12, 2, 1, 2, 3)
	corrected(t, nil, postings(f, a, e, b, d), e, d, a, b, f)
	corrected(t, postings(f, b, e), nil, post(4, 12, 2, 1, 3), backB, post(12, 2, 2, 1, 3))
	corrected(t, postings(f, a, e, b, d), postings(d, a, b, e, f))
	corrected(t, postings(f, a, e, d), postings(d, b, e, c, f), backA, b, c)
	corrected(t, postings(a), postings(e), e, backA)
	corrected(t, postings(a), postings(post(5, 2, 1, 2, 3)), backA, post(5, 2, 1, 2, 3))
	corrected(t, postings(a), postings(post(6, 1, 1, 2, 3)), backA, post(6, 1, 1, 2, 3))
	corrected(t, postings(post(1, 12, 1, 2, 3)), postings(post(2, 0, 1, 2, 3), post(1, 11, 1, 2, 3), post(0, 12, 1, 2, 3)), post(0, 12, 1, 2, 3), post(1, 11, 1, 2, 3), post(1, 12, 2, 1, 3), post(2, 0, 1, 2, 3))
}

func TestP7_9Limit(t *testing.T) {
	half := manyPostings(api.MaxPostings / 2)
	var other []api.Posting
	for _, x := range half {
		x.Amount++
		other = append(other, x)
	}
	got, e := rates.Correct(half, other)
	if e != api.OK || len(got) != api.MaxPostings {
		t.Error("Correct", len(got), e)
	}
	got, e = rates.Correct(half, append(other, post(9999, 1, 1, 2, 3)))
	if e != api.ErrLimit || len(got) > 0 {
		t.Error("Correct", len(got), e)
	}
	got, e = rates.Correct(append(half, post(9999, 1, 1, 2, 3)), other)
	if e != api.ErrLimit || len(got) > 0 {
		t.Error("Correct", len(got), e)
	}
	full := manyPostings(api.MaxPostings)
	corrected(t, full, full)
	got, e = rates.Correct(nil, full)
	same(t, "Correct", got, full, e)
	got, e = rates.Correct(full, nil)
	if e != api.OK || len(got) != api.MaxPostings {
		t.Error("Correct", len(got), e)
	}
	l := slices.Clone(full)
	l[0].Amount = 99
	corrected(t, full, l, post(0, 1, 2, 1, 1), post(0, 1, 1, 2, 99))
	// All of one group.
	got, e = rates.Correct(repeat(post(1, 1, 1, 2, 3), api.MaxPostings), repeat(post(1, 1, 1, 2, 3), api.MaxPostings-1))
	if e != api.ErrLimit || len(got) > 0 {
		t.Error("Correct", len(got), e)
	}
}

func TestP7_10(t *testing.T) {
	moved := func(old, now []api.Posting, want ...int) {
		t.Helper()
		got, e := rates.Moved(old, now)
		same(t, "Moved", got, changes(want...), e)
	}
	moved(nil, nil)
	moved(examplePostings(), examplePostings())
	moved(nil, postings(post(1, 1, -1, 5, 3)), -1, -3, 5, 3)
	moved(postings(post(1, 1, -1, 5, 3)), nil, -1, 3, 5, -3)
	moved(postings(post(1, 1, -1, 5, 3)), postings(post(9, 2, -1, 5, 1), post(7, 2, -1, 5, 2))) // other groups, and the same balances
	moved(postings(post(1, 1, -1, 5, 3)), postings(post(1, 1, -1, 4, 3)), 4, 3, 5, -3)
	moved(postings(post(1, 1, -1, 5, 3)), postings(post(1, 1, -1, -2, 8), post(1, 1, 5, -1, 1)), -2, 8, -1, -4, 5, -4)
	moved(postings(post(1, 1, 4, api.MaxID, 3), post(1, 1, 1, 2, 3)), postings(post(1, 1, 1, 2, 3), post(1, 1, 6, 7, 3), post(1, 1, 7, 6, 3)), 4, 3, api.MaxID, -3)
	moved(repeat(post(1, 1, 1, 2, api.MaxAmount), api.MaxPostings), repeat(post(1, 1, 2, 1, api.MaxAmount), api.MaxPostings), 1, 2*api.MaxPostings*api.MaxAmount, 2, -2*api.MaxPostings*api.MaxAmount)
}

// TestP7_17 compares corrections with their definitions, and checks what follows.
func TestP7_17(t *testing.T) {
	r := chance(17)
	for range 10000 {
		old := r.postings(16, 4)
		now := r.change(old, 4)
		if r.n(5) == 0 {
			now = r.postings(16, 4)
		}
		l, e := rates.Correct(old, now)
		same(t, "Correct", l, correctAsDefined(old, now, 3), e)
		c, e := rates.Moved(old, now)
		same(t, "Moved", c, movedAsDefined(old, now), e)
		again, e := rates.Correct(old, slices.Clone(old))
		same(t, "Correct with itself", again, nil, e)
		// The balances of old and of what corrects it are those of now, up to accounts that do not occur there.
		got, e := rates.Balances(slices.Concat(old, l))
		for _, x := range got {
			if n, f := rates.Balance(now, x.Account); n != x.Pence || max(e, f) != api.OK {
				t.Error("Balance", old, now, x, n, e, f)
			}
		}
		for _, account := range accountsOf(now...) {
			if !slices.ContainsFunc(got, func(x api.Change) bool { return x.Account == account }) {
				t.Error("Balances", old, now, got, account)
			}
		}
		all, e := rates.Balances(l)
		same(t, "Balances of Correct", slices.DeleteFunc(all, func(x api.Change) bool { return x.Pence == 0 }), c, e)
		var groups []api.Posting
		for _, name := range differingAsDefined(old, now, 3) {
			groups = slices.Concat(groups, groupOf(old, name[0], name[1]), groupOf(now, name[0], name[1]))
		}
		for _, account := range accountsOf(l...) {
			if !slices.Contains(accountsOf(groups...), account) {
				t.Error("Correct: account", old, now, l, account)
			}
		}
	}
}

func TestP7_11(t *testing.T) {
	p := api.Policy{Since: 2, Base: 50, Credit: 10, Charge: 10, Doubt: 4, Cap: 25, Bonus: 0}
	rests := func(l []api.Round, nights api.Span, which int, want ...[2]int) {
		t.Helper()
		got, e := rates.Rests(policies(p), l, nights, which)
		same(t, "Rests", got, want, e)
	}
	l := rounds(round(1, 1, api.VeCertified, 5), round(2, 1, api.VeCertified, 5), round(2, 2, api.VeCertified, 5), round(2, 3, api.VeFailed, 5), round(2, 7, api.VeCertified, 6), round(2, 12, api.VeCertified, 5), round(3, 1, api.VeVoid, 5), round(4, 1, api.VeCertified, 5))
	rests(l, span(0, 9), 0)                                            // no policy is in force
	rests(l, span(0, 9), 1, [2]int{2, 1}, [2]int{2, 7}, [2]int{2, 12}) // of which the Cap leaves more then
	rests(l, span(0, 9), 2, [2]int{2, 2}, [2]int{2, 7}, [2]int{2, 12})
	rests(l, span(0, 9), 3, [2]int{2, 3})
	rests(l, span(0, 9), 4, [2]int{2, 7}, [2]int{2, 12})
	rests(l, span(0, 9), 5) // the Cap leaves nothing for it
	rests(l, span(0, 9), 6, [2]int{3, 1})
	rests(l, span(3, 9), 6, [2]int{3, 1})
	rests(l, span(3, 9), 3) // of another night
	rests(l, span(0, 1), 7)
	rests(l, span(4, 4), 7, [2]int{4, 1})
	for _, which := range []int{-1, len(l), len(l) + 1, minInt, maxInt} {
		if got, e := rates.Rests(policies(p), l, span(0, 9), which); e != api.ErrArg || len(got) > 0 {
			t.Error("Rests", which, got, e)
		}
	}
	if got, e := rates.Rests(policies(p), nil, span(0, 9), 0); e != api.ErrArg || len(got) > 0 {
		t.Error("Rests", got, e)
	}
}

// decisions yields all ways to decide the doubtful ones of some rounds.
func decisions(l []api.Round) func(yield func(certified []bool) bool) {
	doubtful := 0
	for _, r := range l {
		if r.Kind == api.VeDoubtful {
			doubtful++
		}
	}
	return func(yield func(certified []bool) bool) {
		for bits := range 1 << doubtful {
			certified := make([]bool, doubtful)
			for k := range certified {
				certified[k] = bits>>k&1 == 1
			}
			if !yield(certified) {
				return
			}
		}
	}
}

// given returns what the house has to give in a season in which the doubtful rounds are decided.
func given(t *testing.T, ps []api.Policy, l []api.Round, certified []bool, nights api.Span) int {
	t.Helper()
	decided, e := rates.Decide(l, certified)
	if e != api.OK {
		t.Error("Decide", l, certified, e)
	}
	return -balanceAsDefined(seasonAsDefined(ps, decided, nights), api.AcHouse)
}

func outlook(t *testing.T, ps []api.Policy, l []api.Round, nights, want api.Span) {
	t.Helper()
	if got, e := rates.Outlook(ps, l, nights); got != want || e != api.OK {
		t.Error("Outlook", ps, l, nights, got, e, want)
	}
}

func TestP7_12(t *testing.T) {
	p := api.Policy{Since: 2, Base: 50, Credit: 10, Charge: 20, Doubt: 3, Cap: 25, Bonus: 500}
	doubtful := func(nights ...int) []api.Round {
		var l []api.Round
		for _, night := range nights {
			l = append(l, round(night, len(l)+1, api.VeDoubtful, 5))
		}
		return l
	}
	outlook(t, nil, doubtful(2), span(0, 9), span(0, 0))
	outlook(t, policies(p), doubtful(1), span(0, 1), span(0, 0))
	outlook(t, policies(p), nil, span(2, 2), span(50, 50))
	outlook(t, policies(p), nil, span(0, 3), span(100, 100))
	outlook(t, policies(p), doubtful(2), span(2, 2), span(45, 70))
	outlook(t, policies(p), doubtful(2), span(3, 3), span(50, 50))
	outlook(t, policies(p), doubtful(2, 2), span(2, 2), span(40, 75))
	outlook(t, policies(p), doubtful(2, 2, 2), span(2, 2), span(37, 75)) // the last credit is 5, of which the crew gets 2
	outlook(t, policies(p), doubtful(2, 3, 3), span(1, 3), span(85, 145))
	p.Base, p.Credit, p.Cap, p.Bonus = 10, 100, 10, 0
	outlook(t, policies(p), doubtful(2), span(2, 2), span(0, 20))
	outlook(t, policies(p), manyRounds(api.MaxSeason, api.VeDoubtful), span(2, api.MaxNights+1), span(10*400-10*15, 10*400+10*15))
}

// TestP7_12Chance compares Outlook with all ways to decide, and Rests with its definition.
func TestP7_12Chance(t *testing.T) {
	r := chance(12)
	for range 3000 {
		ps, l := r.policies(0, 4), r.rounds(0, 4)
		l = l[:min(len(l), r.from(1, 20))]
		doubtful := 0
		for k := range l {
			if l[k].Kind == api.VeDoubtful {
				if doubtful++; doubtful > 7 {
					l[k].Kind = api.VeVoid
				}
			}
		}
		nights := span(r.n(2), r.from(2, 5))
		var all []int
		for certified := range decisions(l) {
			all = append(all, given(t, ps, l, certified, nights))
		}
		outlook(t, ps, l, nights, span(slices.Min(all), slices.Max(all)))
		for which := range l {
			got, e := rates.Rests(ps, l, nights, which)
			others := slices.Delete(copyOf(l), which, which+1)
			same(t, "Rests", got, differingAsDefined(seasonAsDefined(ps, l, nights), seasonAsDefined(ps, others, nights), 5), e)
		}
	}
}
