package rates_test

import (
	"slices"
	"testing"

	"patrol/api"
	"patrol/rates"
)

// balanceOf returns the balance of an account.
func balanceOf(t *testing.T, l []api.Posting, account int) int {
	t.Helper()
	n, e := rates.Balance(l, account)
	if e != api.OK {
		t.Error("Balance", l, account, e)
	}
	return n
}

// season returns what Season returns.
func season(t *testing.T, ps []api.Policy, l []api.Round, nights api.Span) []api.Posting {
	t.Helper()
	got, e := rates.Season(ps, l, nights)
	if e != api.OK {
		t.Error("Season", ps, l, nights, e)
	}
	return got
}

func TestP7_15(t *testing.T) {
	r := chance(15)
	for range 5000 {
		a, b := r.postings(12, 4), r.postings(12, 4)
		all, e := rates.Balances(slices.Concat(a, b))
		sum := 0
		for _, x := range all {
			sum += x.Pence
			if n := balanceOf(t, a, x.Account) + balanceOf(t, b, x.Account); n != x.Pence || n != balanceOf(t, slices.Concat(b, a), x.Account) {
				t.Error("Balances", a, b, x, n)
			}
		}
		if sum != 0 || e != api.OK {
			t.Error("Balances", a, b, all, e)
		}
	}
}

func TestP7_18(t *testing.T) {
	r := chance(18)
	for range 3000 {
		ps, l, hi := r.policies(0, 6), r.rounds(0, 6), r.from(1, 7)
		whole := season(t, ps, l, span(0, hi))
		cut := r.n(hi)
		same(t, "Season, cut", slices.Concat(season(t, ps, l, span(0, cut)), season(t, ps, l, span(cut+1, hi))), whole, api.OK)
		if len(l) == 0 {
			continue
		}
		k, other := r.n(len(l)), copyOf(l)
		other[k].Kind = r.pick(api.VeCertified, api.VeDoubtful, api.VeFailed, api.VeVoid)
		for _, name := range differingAsDefined(whole, season(t, ps, other, span(0, hi)), hi) {
			if name[0] != l[k].Night || name[1] < l[k].No {
				t.Error("Season, changed", ps, l, other, name)
			}
		}
	}
}

// TestP7_19Nights checks the bounds of what the house gives in a night, and that no watchman has to give anything.
func TestP7_19Nights(t *testing.T) {
	r := chance(19)
	for range 5000 {
		p, l := r.policy(0), r.rounds(3, 3)
		got, e := rates.Night(p, 3, l)
		given := balanceOf(t, got, api.AcInsurer)
		if given > p.Base+p.Cap || given < p.Base-p.Cap || e != api.OK {
			t.Error("Night", p, l, got, given, e)
		}
		for id := 1; id <= 12; id++ {
			if balanceOf(t, got, id) < 0 {
				t.Error("Night", p, l, got, id)
			}
		}
	}
	// Both bounds are attained.
	p := api.Policy{Base: 50, Credit: 30, Charge: 30, Cap: 40, Bonus: 1000}
	for kind, want := range map[int]int{api.VeCertified: 10, api.VeFailed: 90} {
		got, e := rates.Night(p, 3, rounds(round(3, 1, kind, 1), round(3, 2, kind, 2)))
		if n := balanceOf(t, got, api.AcInsurer); n != want || e != api.OK {
			t.Error("Night", kind, got, n, e)
		}
	}
}

// TestP7_19Outlooks checks that what the house gives lies within Outlook, whatever becomes of doubtful rounds, and that both ends are attained.
func TestP7_19Outlooks(t *testing.T) {
	r := chance(20)
	for range 500 {
		ps, l, nights := r.policies(0, 3), r.rounds(0, 3), span(r.n(2), r.from(2, 4))
		l = l[:min(len(l), 14)]
		o, e := rates.Outlook(ps, l, nights)
		attained := [2]bool{}
		for certified := range decisions(l) {
			decided, f := rates.Decide(l, certified)
			n := -balanceOf(t, season(t, ps, decided, nights), api.AcHouse)
			if n < o.Lo || n > o.Hi || max(e, f) != api.OK {
				t.Error("Outlook", ps, l, nights, certified, o, n, e, f)
			}
			attained[0] = attained[0] || n == o.Lo
			attained[1] = attained[1] || n == o.Hi
		}
		if attained != [2]bool{true, true} {
			t.Error("Outlook", ps, l, nights, o, attained)
		}
	}
}

func TestP7_20(t *testing.T) {
	r := chance(21)
	for range 10000 {
		l := r.postings(12, 3)
		paid, e := rates.Settle(l)
		if e == api.ErrLimit {
			continue
		}
		if e != api.OK {
			t.Error("Settle", l, e)
		}
		checkedPostings(t, api.OK, -1, paid...)
		open, f := rates.Balances(l)
		open = slices.DeleteFunc(open, func(x api.Change) bool { return x.Pence == 0 })
		if len(paid) > 0 && len(paid) >= len(open) || len(paid) > 0 != (len(open) > 0) || f != api.OK {
			t.Error("Settle", l, paid, open, f)
		}
		all, f := rates.Balances(slices.Concat(l, paid))
		if f != api.OK || slices.ContainsFunc(all, func(x api.Change) bool { return x.Pence != 0 }) {
			t.Error("Settle", l, paid, all, f)
		}
	}
}
