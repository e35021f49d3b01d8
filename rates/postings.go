package rates

import (
	"maps"
	"slices"

	"patrol/api"
)

// isAccount reports whether an integer is an account.
func isAccount(n int) bool { return n == api.AcHouse || n == api.AcInsurer || isID(n) }

// isRightPosting reports whether a posting is valid.
func isRightPosting(x api.Posting) bool {
	if !isAccount(x.From) || !isAccount(x.To) || x.From == x.To {
		return false
	}
	return isNight(x.Night) && isIn(x.No, 0, api.MaxRounds) && isIn(x.Amount, 1, api.MaxAmount)
}

// CheckPostings returns the first error of a list of postings, and its index.
func CheckPostings(l []api.Posting) (api.Errno, int) {
	return firstError(len(l), api.MaxPostings, func(k int) api.Errno {
		if !isRightPosting(l[k]) {
			return api.ErrArg
		}
		return api.OK
	})
}

// balancesOf returns the balances of all accounts that occur in a list of postings.
func balancesOf(l []api.Posting) map[int]int {
	balances := map[int]int{}
	for _, x := range l {
		balances[x.From] -= x.Amount
		balances[x.To] += x.Amount
	}
	return balances
}

// changesOf returns those amounts of accounts which a function chooses, by increasing account.
func changesOf(amounts map[int]int, choose func(pence int) bool) []api.Change {
	var l []api.Change
	for _, account := range slices.Sorted(maps.Keys(amounts)) {
		if pence := amounts[account]; choose(pence) {
			l = append(l, api.Change{Account: account, Pence: pence})
		}
	}
	return l
}

// Balance returns what an account has received less what it has given.
func Balance(l []api.Posting, account int) (int, api.Errno) {
	if e, _ := CheckPostings(l); e != api.OK {
		return 0, e
	}
	if !isAccount(account) {
		return 0, api.ErrArg
	}
	return balancesOf(l)[account], api.OK
}

// Balances returns the balances of all accounts that occur.
func Balances(l []api.Posting) ([]api.Change, api.Errno) {
	if e, _ := CheckPostings(l); e != api.OK {
		return nil, e
	}
	return changesOf(balancesOf(l), func(int) bool { return true }), api.OK
}

// lessen returns a list of changes of which the first one is less by some pence, and is left out if none are left of it.
func lessen(l []api.Change, pence int) []api.Change {
	l[0].Pence -= pence
	if l[0].Pence == 0 {
		return l[1:]
	}
	return l
}

// Settle returns payments that make all balances zero.
func Settle(l []api.Posting) ([]api.Posting, api.Errno) {
	if e, _ := CheckPostings(l); e != api.OK {
		return nil, e
	}
	balances := balancesOf(l)
	givers := changesOf(balances, func(pence int) bool { return pence > 0 })
	takers := changesOf(balances, func(pence int) bool { return pence < 0 })
	var paid []api.Posting
	// All balances together are 0, so that there are takers as long as there are givers.
	for len(givers) > 0 {
		giver, taker := givers[0], takers[0]
		pence := min(giver.Pence, -taker.Pence)
		if pence > api.MaxAmount {
			return nil, api.ErrLimit
		}
		paid = append(paid, api.Posting{From: giver.Account, To: taker.Account, Amount: pence})
		givers, takers = lessen(givers, pence), lessen(takers, -pence)
	}
	return paid, api.OK
}

// Earned returns what a watchman has earned in each of some nights.
func Earned(l []api.Posting, id int, nights api.Span) ([]int, api.Errno) {
	if e, _ := CheckPostings(l); e != api.OK {
		return nil, e
	}
	if e := checkNights(nights); e != api.OK {
		return nil, e
	}
	if !isID(id) {
		return nil, api.ErrArg
	}
	ofNights := map[int][]api.Posting{}
	for _, x := range l {
		ofNights[x.Night] = append(ofNights[x.Night], x)
	}
	var earned []int
	for night := nights.Lo; night <= nights.Hi; night++ {
		earned = append(earned, balancesOf(ofNights[night])[id])
	}
	return earned, api.OK
}
