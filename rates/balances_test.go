package rates_test

import (
	"slices"
	"testing"

	"patrol/api"
	"patrol/rates"
)

// balanceAsDefined returns the balance of an account by the chapter's definition.
func balanceAsDefined(l []api.Posting, account int) int {
	received, given := 0, 0
	for _, x := range l {
		if x.To == account {
			received += x.Amount
		}
		if x.From == account {
			given += x.Amount
		}
	}
	return received - given
}

// accountsOf returns the accounts of some postings, in increasing order.
func accountsOf(l ...api.Posting) []int {
	var accounts []int
	for _, x := range l {
		accounts = append(accounts, x.From, x.To)
	}
	slices.Sort(accounts)
	return slices.Compact(accounts)
}

// balancesAsDefined returns the balances of all accounts that occur.
func balancesAsDefined(l []api.Posting) []api.Change {
	var c []api.Change
	for _, account := range accountsOf(l...) {
		c = append(c, api.Change{Account: account, Pence: balanceAsDefined(l, account)})
	}
	return c
}

// settledAsDefined returns what Settle has to return for balances, by the chapter's definition, and whether no amount is too great.
func settledAsDefined(c []api.Change) ([]api.Posting, bool) {
	var l []api.Posting
	for {
		giver := slices.IndexFunc(c, func(x api.Change) bool { return x.Pence > 0 })
		taker := slices.IndexFunc(c, func(x api.Change) bool { return x.Pence < 0 })
		if giver < 0 {
			return l, true
		}
		n := min(c[giver].Pence, -c[taker].Pence)
		if n > api.MaxAmount {
			return nil, false
		}
		l = append(l, post(0, 0, c[giver].Account, c[taker].Account, n))
		c[giver].Pence -= n
		c[taker].Pence += n
	}
}

func TestP7_7(t *testing.T) {
	l := postings(post(5, 1, 7, -1, 10), post(3, 0, -1, -2, 4), post(5, 1, 8, 9, 3), post(5, 1, 9, 8, 3), post(5, 1, -1, api.MaxID, 6), post(5, 1, 7, -1, 1))
	for account, want := range map[int]int{-2: 4, -1: 1, 7: -11, 8: 0, 9: 0, 1: 0, 10: 0, api.MaxID: 6, api.MaxID - 1: 0} {
		if n, e := rates.Balance(l, account); n != want || e != api.OK {
			t.Error("Balance", account, n, e)
		}
		if n, e := rates.Balance(nil, account); n != 0 || e != api.OK {
			t.Error("Balance", account, n, e)
		}
	}
	for _, account := range []int{0, -3, api.MaxID + 1, minInt, maxInt} {
		for _, l := range [][]api.Posting{nil, l} {
			if n, e := rates.Balance(l, account); n != 0 || e != api.ErrArg {
				t.Error("Balance", account, n, e)
			}
		}
	}
	got, e := rates.Balances(l)
	same(t, "Balances", got, changes(-2, 4, -1, 1, 7, -11, 8, 0, 9, 0, api.MaxID, 6), e)
	got, e = rates.Balances(nil)
	same(t, "Balances", got, nil, e)
	// Balances can be greater than an Amount.
	got, e = rates.Balances(repeat(post(0, 0, 1, 2, api.MaxAmount), api.MaxPostings))
	same(t, "Balances", got, changes(1, -api.MaxPostings*api.MaxAmount, 2, api.MaxPostings*api.MaxAmount), e)
}

func settled(t *testing.T, l []api.Posting, want ...api.Posting) {
	t.Helper()
	got, e := rates.Settle(l)
	same(t, "Settle", got, want, e)
}

func TestP7_8(t *testing.T) {
	settled(t, nil)
	settled(t, postings(post(9, 4, 5, 3, 8)), post(0, 0, 3, 5, 8))
	settled(t, postings(post(9, 4, 5, 3, 8), post(2, 0, 3, 5, 8)))
	settled(t, postings(post(1, 1, 1, 2, 5), post(1, 1, 2, 3, 5), post(1, 1, 3, 1, 5)))
	settled(t, postings(post(1, 1, 4, 3, 5), post(1, 1, 2, 1, 5)), post(0, 0, 1, 2, 5), post(0, 0, 3, 4, 5))
	settled(t, postings(post(1, 1, 2, 3, 5), post(1, 1, 4, 1, 5)), post(0, 0, 1, 2, 5), post(0, 0, 3, 4, 5)) // the least accounts, whoever gave whom
	settled(t, postings(post(1, 1, 4, 1, 7), post(1, 1, 5, 2, 2), post(1, 1, 6, 2, 1)), post(0, 0, 1, 4, 7), post(0, 0, 2, 5, 2), post(0, 0, 2, 6, 1))
	settled(t, postings(post(1, 1, 4, 1, 3), post(1, 1, 4, 2, 4), post(1, 1, 3, 2, 2)), post(0, 0, 1, 3, 2), post(0, 0, 1, 4, 1), post(0, 0, 2, 4, 6))
	settled(t, postings(post(1, 1, -1, -2, 3), post(1, 1, 1, -1, 9)), post(0, 0, -2, 1, 3), post(0, 0, -1, 1, 6))
	// There can be more postings than a list may have.
	var l []api.Posting
	for k := range api.MaxPostings {
		l = append(l, post(1, 1, 20000-k, 1+k, k*k%7+1))
	}
	want, _ := settledAsDefined(balancesAsDefined(l))
	settled(t, l, want...)
	if len(want) <= api.MaxPostings {
		t.Error("this list has too few postings", len(want))
	}
}

func TestP7_8Limit(t *testing.T) {
	const most = api.MaxAmount
	settled(t, postings(post(1, 1, 1, 2, most)), post(0, 0, 2, 1, most))
	settled(t, postings(post(1, 1, 1, 2, most), post(1, 1, 3, 2, most)), post(0, 0, 2, 1, most), post(0, 0, 2, 3, most)) // a balance, but no amount, is too great
	fails := func(l ...api.Posting) {
		t.Helper()
		if got, e := rates.Settle(l); e != api.ErrLimit || len(got) > 0 {
			t.Error("Settle", l, got, e)
		}
	}
	fails(post(1, 1, 1, 2, most), post(1, 1, 1, 2, 1))
	fails(repeat(post(0, 0, 1, 2, most), api.MaxPostings)...)
	fails(post(1, 1, 1, 2, 5), post(1, 1, 3, 4, most), post(1, 1, 3, 4, most)) // also behind amounts that are not too great
}

// TestP7_8Chance settles lists that chance makes; some of them have amounts that are too great.
func TestP7_8Chance(t *testing.T) {
	r := chance(8)
	limits := 0
	for range 20000 {
		l := r.postings(12, 3)
		want, is := settledAsDefined(balancesAsDefined(l))
		if is {
			settled(t, l, want...)
			continue
		}
		limits++
		if got, e := rates.Settle(l); e != api.ErrLimit || len(got) > 0 {
			t.Error("Settle", l, got, e)
		}
	}
	if limits < 100 || limits > 10000 {
		t.Error("Settle: limits", limits)
	}
}

// TestP7_7Chance compares balances, and what was earned, with their definitions.
func TestP7_7Chance(t *testing.T) {
	r := chance(7)
	for range 5000 {
		l := r.postings(20, 5)
		got, e := rates.Balances(l)
		same(t, "Balances", got, balancesAsDefined(l), e)
		for _, account := range []int{-2, -1, 1, 2, 3, 4, 5, api.MaxID} {
			if n, e := rates.Balance(l, account); n != balanceAsDefined(l, account) || e != api.OK {
				t.Error("Balance", l, account, n, e)
			}
		}
		lo := r.n(4)
		hi := r.from(lo, 6)
		for _, id := range []int{1, 2, 3, 4, 5, api.MaxID} {
			var want []int
			for night := lo; night <= hi; night++ {
				want = append(want, balanceAsDefined(slices.DeleteFunc(slices.Clone(l), func(x api.Posting) bool { return x.Night != night }), id))
			}
			got, e := rates.Earned(l, id, span(lo, hi))
			same(t, "Earned", got, want, e)
		}
	}
}

func TestP7_13(t *testing.T) {
	l := postings(post(5, 1, -1, 7, 10), post(3, 0, -1, 7, 4), post(5, 2, 7, 9, 3), post(6, 1, 9, 8, 3), post(api.MaxNight, 1, 9, 7, 2), post(5, 1, -1, 7, 10), post(3, 9, 7, -1, 5))
	earned := func(id int, nights api.Span, want ...int) {
		t.Helper()
		got, e := rates.Earned(l, id, nights)
		same(t, "Earned", got, want, e)
	}
	earned(7, span(3, 6), -1, 0, 17, 0)
	earned(7, span(5, 5), 17)
	earned(9, span(0, 7), 0, 0, 0, 0, 0, 3, -3, 0)
	earned(1, span(5, 6), 0, 0)
	earned(api.MaxID, span(5, 6), 0, 0)
	earned(7, span(api.MaxNight-1, api.MaxNight), 0, 2)
	want := make([]int, api.MaxNights)
	want[3], want[5] = -1, 17
	earned(7, span(0, api.MaxNights-1), want...)
	for _, id := range []int{0, api.AcHouse, api.AcInsurer, -3, api.MaxID + 1, minInt, maxInt} {
		if got, e := rates.Earned(l, id, span(3, 6)); e != api.ErrArg || len(got) > 0 {
			t.Error("Earned", id, got, e)
		}
	}
}
