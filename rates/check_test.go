package rates_test

import (
	"slices"
	"testing"

	"patrol/api"
	"patrol/rates"
)

func checkedPolicies(t *testing.T, want api.Errno, at int, l ...api.Policy) {
	t.Helper()
	if e, k := rates.CheckPolicies(l); e != want || k != at {
		t.Errorf("CheckPolicies: %v: %d at %d, not %d at %d", l, e, k, want, at)
	}
}

func checkedRounds(t *testing.T, want api.Errno, at int, l ...api.Round) {
	t.Helper()
	if e, k := rates.CheckRounds(l); e != want || k != at {
		t.Errorf("CheckRounds: %v: %d at %d, not %d at %d", l, e, k, want, at)
	}
}

func checkedPostings(t *testing.T, want api.Errno, at int, l ...api.Posting) {
	t.Helper()
	if e, k := rates.CheckPostings(l); e != want || k != at {
		t.Errorf("CheckPostings: %v: %d at %d, not %d at %d", l, e, k, want, at)
	}
}

// bound is a number of an element, and the least and the greatest value that it may have.
type bound[T any] struct {
	number func(x *T) *int
	lo, hi int
}

// isBounded tries the bounds of an element, as the one behind another element that is right: check is given the error that is required, and the element.
func isBounded[T any](right T, l []bound[T], check func(want api.Errno, x T)) {
	for _, b := range l {
		for _, n := range []int{b.lo, b.lo + 1, b.hi - 1, b.hi} {
			x := right
			*b.number(&x) = n
			check(api.OK, x)
		}
		for _, n := range []int{b.lo - 1, b.hi + 1, minInt, maxInt} {
			x := right
			*b.number(&x) = n
			check(api.ErrArg, x)
		}
	}
}

func TestP7_1Policies(t *testing.T) {
	checkedPolicies(t, api.OK, -1)
	checkedPolicies(t, api.OK, -1, examplePolicy())
	checkedPolicies(t, api.OK, -1, greatPolicy())
	checkedPolicies(t, api.OK, -1, api.Policy{})
	isBounded(greatPolicy(), []bound[api.Policy]{
		{func(p *api.Policy) *int { return &p.Since }, 1, api.MaxNight},
		{func(p *api.Policy) *int { return &p.Credit }, 0, api.MaxPence},
		{func(p *api.Policy) *int { return &p.Charge }, 0, api.MaxPence},
		{func(p *api.Policy) *int { return &p.Doubt }, 0, api.MaxPence},
		{func(p *api.Policy) *int { return &p.Cap }, 0, api.MaxPence},
		{func(p *api.Policy) *int { return &p.Bonus }, 0, api.Mille},
	}, func(want api.Errno, p api.Policy) {
		t.Helper()
		if p.Since == 0 { // which is valid, but not behind another one
			checkedPolicies(t, api.OK, -1, p)
			return
		}
		if want == api.OK {
			checkedPolicies(t, want, -1, api.Policy{}, p)
			return
		}
		checkedPolicies(t, want, 1, api.Policy{}, p, api.Policy{})
	})
	bare := api.Policy{Since: 5}
	isBounded(bare, []bound[api.Policy]{{func(p *api.Policy) *int { return &p.Base }, 0, api.MaxPence}}, func(want api.Errno, p api.Policy) {
		t.Helper()
		checkedPolicies(t, want, map[api.Errno]int{api.OK: -1}[want], p)
	})
	for _, p := range policies(api.Policy{Base: 5, Cap: 6}, api.Policy{Cap: 1}, api.Policy{Base: 5, Cap: -1}, api.Policy{Base: -1, Cap: -1}) {
		checkedPolicies(t, api.ErrArg, 0, p)
	}
	checkedPolicies(t, api.OK, -1, api.Policy{Base: 5, Cap: 5})
}

func TestP7_1PoliciesInOrder(t *testing.T) {
	at := func(since int) api.Policy { return api.Policy{Since: since} }
	checkedPolicies(t, api.OK, -1, at(0), at(1), at(7), at(api.MaxNight))
	checkedPolicies(t, api.ErrTwice, 1, at(3), at(3))
	checkedPolicies(t, api.ErrTwice, 2, at(0), at(4), at(3))
	checkedPolicies(t, api.ErrTwice, 2, at(0), at(4), at(0), at(-1))
	checkedPolicies(t, api.ErrArg, 1, at(0), at(-1), at(0))
	checkedPolicies(t, api.ErrArg, 1, at(3), api.Policy{Since: 3, Bonus: -1}, at(3))
	checkedPolicies(t, api.ErrArg, 0, at(-1), at(-1))
	checkedPolicies(t, api.OK, -1, manyPolicies(api.MaxPolicies)...)
	checkedPolicies(t, api.ErrLimit, -1, manyPolicies(api.MaxPolicies+1)...)
	checkedPolicies(t, api.ErrLimit, -1, slices.Repeat(policies(at(-1)), api.MaxPolicies+1)...)
}

func TestP7_1Rounds(t *testing.T) {
	checkedRounds(t, api.OK, -1)
	checkedRounds(t, api.OK, -1, exampleRounds()...)
	isBounded(round(5, 5, api.VeCertified, 1), []bound[api.Round]{
		{func(r *api.Round) *int { return &r.Night }, 0, api.MaxNight},
		{func(r *api.Round) *int { return &r.No }, 1, api.MaxRounds},
		{func(r *api.Round) *int { return &r.Kind }, api.VeCertified, api.VeVoid},
	}, func(want api.Errno, r api.Round) {
		t.Helper()
		if want == api.OK {
			checkedRounds(t, want, -1, r)
			return
		}
		checkedRounds(t, want, 0, r)
		checkedRounds(t, want, 1, round(6, 1, api.VeVoid, 1), r, round(5, 1, api.VeVoid, 1))
	})
	for _, crew := range [][]int{{1}, {api.MaxID}, {1, 2}, {1, 5, 7}, {1, 5, 7, api.MaxID}} {
		checkedRounds(t, api.OK, -1, round(5, 5, api.VeFailed, crew...))
	}
	for _, crew := range [][]int{nil, {}, {0}, {-1}, {-2}, {api.MaxID + 1}, {minInt}, {maxInt}, {1, 1}, {2, 1}, {1, 5, 5}, {1, 5, 4}, {0, 1}, {1, api.MaxID + 1}, {1, 2, 3, 4, 5}, {1, 2, 3, 0}} {
		checkedRounds(t, api.ErrArg, 0, round(5, 5, api.VeFailed, crew...))
	}
}

func TestP7_1RoundsInOrder(t *testing.T) {
	at := func(night, no int) api.Round { return round(night, no, api.VeVoid, 4) }
	checkedRounds(t, api.OK, -1, at(0, 3), at(0, 4), at(0, 12), at(1, 1), at(1, 2), at(api.MaxNight, 1))
	checkedRounds(t, api.ErrTwice, 1, at(3, 3), at(3, 3))
	checkedRounds(t, api.ErrTwice, 1, at(3, 3), at(3, 2))
	checkedRounds(t, api.ErrTwice, 1, at(3, 3), at(2, 3))
	checkedRounds(t, api.ErrTwice, 2, at(1, 1), at(3, 3), at(2, 4), at(-1, 0))
	checkedRounds(t, api.ErrTwice, 1, at(3, 3), round(3, 3, api.VeCertified, 5))
	checkedRounds(t, api.ErrArg, 1, at(3, 3), round(3, 3, 0, 5), at(3, 3))
	checkedRounds(t, api.ErrArg, 0, at(-1, 3), at(-1, 3))
	checkedRounds(t, api.OK, -1, manyRounds(api.MaxSeason, api.VeVoid)...)
	checkedRounds(t, api.ErrLimit, -1, manyRounds(api.MaxSeason+1, api.VeVoid)...)
	checkedRounds(t, api.ErrLimit, -1, make([]api.Round, api.MaxSeason+1)...)
}

func TestP7_2(t *testing.T) {
	l := policies(api.Policy{Since: 3, Base: 1}, api.Policy{Since: 4, Base: 2}, api.Policy{Since: 9, Base: 3}, api.Policy{Since: api.MaxNight, Base: 4})
	for night, base := range map[int]int{3: 1, 4: 2, 5: 2, 8: 2, 9: 3, 10: 3, api.MaxNight - 1: 3, api.MaxNight: 4} {
		if p, e := rates.InForce(l, night); p != l[base-1] || e != api.OK {
			t.Error("InForce", night, p, e)
		}
	}
	if p, e := rates.InForce(policies(api.Policy{Bonus: 5}), 0); p != (api.Policy{Bonus: 5}) || e != api.OK {
		t.Error("InForce", p, e)
	}
	fails := func(l []api.Policy, night int, want api.Errno) {
		t.Helper()
		if p, e := rates.InForce(l, night); p != (api.Policy{}) || e != want {
			t.Error("InForce", night, p, e, want)
		}
	}
	for _, night := range []int{0, 1, 2} {
		fails(l, night, api.ErrNone)
		fails(nil, night, api.ErrNone)
	}
	for _, night := range []int{-1, api.MaxNight + 1, minInt, maxInt} {
		fails(l, night, api.ErrArg)
		fails(nil, night, api.ErrArg)
		fails(policies(l[1], l[0]), night, api.ErrTwice)
		fails(manyPolicies(api.MaxPolicies+1), night, api.ErrLimit)
	}
	fails(policies(api.Policy{Bonus: -1}), 0, api.ErrArg)
}

func TestP7_3(t *testing.T) {
	l := rounds(round(3, 1, api.VeDoubtful, 1), round(3, 2, api.VeCertified, 1), round(3, 4, api.VeFailed, 1, 2), round(3, 5, api.VeDoubtful, 4), round(3, 6, api.VeVoid, 4), round(4, 1, api.VeDoubtful, 5))
	for bits := range 8 {
		want := copyOf(l)
		certified := []bool{bits&1 != 0, bits&2 != 0, bits&4 != 0}
		for n, k := range []int{0, 3, 5} {
			want[k].Kind = map[bool]int{true: api.VeCertified, false: api.VeFailed}[certified[n]]
		}
		got, e := rates.Decide(l, certified)
		sameRounds(t, "Decide", got, want, e)
		got, e = rates.Decide(got, nil)
		sameRounds(t, "Decide again", got, want, e)
	}
	for n := range 6 {
		if got, e := rates.Decide(l, make([]bool, n)); n != 3 && (e != api.ErrArg || len(got) > 0) {
			t.Error("Decide", n, got, e)
		}
	}
	got, e := rates.Decide(nil, nil)
	sameRounds(t, "Decide", got, nil, e)
	if got, e := rates.Decide(nil, []bool{true}); e != api.ErrArg || len(got) > 0 {
		t.Error("Decide", got, e)
	}
	if got, e := rates.Decide(rounds(l[1], l[0]), nil); e != api.ErrTwice || len(got) > 0 {
		t.Error("Decide", got, e)
	}
}

func TestP7_6(t *testing.T) {
	checkedPostings(t, api.OK, -1)
	checkedPostings(t, api.OK, -1, examplePostings()...)
	isBounded(post(5, 5, 1, -1, 9), []bound[api.Posting]{
		{func(x *api.Posting) *int { return &x.Night }, 0, api.MaxNight},
		{func(x *api.Posting) *int { return &x.No }, 0, api.MaxRounds},
		{func(x *api.Posting) *int { return &x.Amount }, 1, api.MaxAmount},
	}, func(want api.Errno, x api.Posting) {
		t.Helper()
		if want == api.OK {
			checkedPostings(t, want, -1, x)
			return
		}
		checkedPostings(t, want, 0, x)
		checkedPostings(t, want, 1, post(5, 5, 1, -1, 9), x, api.Posting{})
	})
	accounts := []int{-2, -1, 1, 2, 7, api.MaxID - 1, api.MaxID}
	for _, from := range accounts {
		for _, to := range accounts {
			if from != to {
				checkedPostings(t, api.OK, -1, post(0, 0, from, to, 1))
				continue
			}
			checkedPostings(t, api.ErrArg, 0, post(0, 0, from, to, 1))
		}
		for _, none := range []int{0, -3, api.MaxID + 1, minInt, maxInt} {
			checkedPostings(t, api.ErrArg, 0, post(0, 0, from, none, 1))
			checkedPostings(t, api.ErrArg, 0, post(0, 0, none, from, 1))
		}
	}
	checkedPostings(t, api.OK, -1, post(9, 3, 1, 2, 3), post(2, 12, 2, 1, 3), post(9, 3, 1, 2, 3), post(9, 1, 1, 2, 3)) // in any order, and twice
	checkedPostings(t, api.OK, -1, manyPostings(api.MaxPostings)...)
	checkedPostings(t, api.ErrLimit, -1, manyPostings(api.MaxPostings+1)...)
	checkedPostings(t, api.ErrLimit, -1, make([]api.Posting, api.MaxPostings+1)...)
	l := manyPostings(api.MaxPostings)
	l[api.MaxPostings-1].Amount = 0
	checkedPostings(t, api.ErrArg, api.MaxPostings-1, l...)
}
