package rates_test

import (
	"slices"
	"testing"

	"patrol/api"
	"patrol/rates"
)

// roomy returns a copy of a list with room and other elements behind its end.
func roomy[T any](l []T, behind T) []T {
	return append(slices.Clone(l), behind, behind, behind)[:len(l)]
}

// whole returns a copy of a list with what lies behind its end.
func whole[T any](l []T) []T { return slices.Clone(l[:cap(l)]) }

// overwrite changes a list, up to its capacity.
func overwrite[T any](l []T, x T) {
	l = l[:cap(l)]
	for k := range l {
		l[k] = x
	}
}

// roomyRounds returns a copy of rounds whose lists have other elements behind their ends, wholeRounds one with these elements.
func roomyRounds(l []api.Round) []api.Round {
	l = roomy(l, round(77, 7, 7, 7))
	for k, r := range l {
		l[k].Crew = roomy(r.Crew, 77)
	}
	return l
}
func wholeRounds(l []api.Round) []api.Round {
	l = whole(l)
	for k, r := range l {
		l[k].Crew = whole(r.Crew)
	}
	return l
}

// overwriteRounds changes rounds, from the innermost lists on.
func overwriteRounds(l []api.Round) {
	for _, r := range l[:cap(l)] {
		overwrite(r.Crew, -7)
	}
	overwrite(l, round(-7, -7, -7))
}

// manyArgs are arguments for which each function has much to tell.
func manyArgs() args {
	x := rightArgs()
	x.ps = policies(api.Policy{Since: 1, Base: 3}, examplePolicy())
	x.l = append(rounds(round(11, 3, api.VeDoubtful, 4, 6)), exampleRounds()...)
	x.certified, x.nights, x.which = []bool{true, false}, span(11, 13), 1
	x.old = append(examplePostings(), post(3, 1, 5, 6, 7))
	x.now = postings(post(12, 2, -2, -1, 20), post(12, 2, -1, 9, 2), post(3, 1, 5, 6, 7), post(12, 2, -1, 7, 3), post(2, 2, 5, 6, 8))
	x.weights = []int{3, 1, 4, 1, 5}
	return x
}

// TestR6Arguments checks that arguments stay as they were, also behind their ends.
func TestR6Arguments(t *testing.T) {
	plain := manyArgs()
	for bits := range 2 {
		x := plain
		x.ps, x.l, x.certified = roomy(x.ps, api.Policy{Since: -7}), roomyRounds(x.l), roomy(x.certified, true)
		x.old, x.now, x.weights = roomy(x.old, post(7, 7, 7, 7, 7)), roomy(x.now, post(7, 7, 7, 7, 7)), roomy(x.weights, -7)
		if bits == 1 {
			x.old, x.now = x.now, x.old
		}
		was := x
		was.ps, was.l, was.certified, was.old, was.now, was.weights = whole(x.ps), wholeRounds(x.l), whole(x.certified), whole(x.old), whole(x.now), whole(x.weights)
		for which := range x.l {
			x.which = which
			calls(x)
		}
		rates.CheckPolicies(x.ps)
		rates.CheckRounds(x.l)
		rates.CheckPostings(x.old)
		same(t, "the policies", whole(x.ps), was.ps, api.OK)
		sameRounds(t, "the rounds", wholeRounds(x.l), was.l, api.OK)
		same(t, "the decisions", whole(x.certified), was.certified, api.OK)
		same(t, "the old postings", whole(x.old), was.old, api.OK)
		same(t, "the new postings", whole(x.now), was.now, api.OK)
		same(t, "the weights", whole(x.weights), was.weights, api.OK)
	}
}

// TestR6Rounds checks that the rounds that Decide returns share nothing with its argument, with each other, or within themselves.
func TestR6Rounds(t *testing.T) {
	x := manyArgs()
	for _, certified := range [][]bool{{true, false}, {true, true}} {
		l := roomyRounds(x.l)
		got, e := rates.Decide(l, certified)
		want := copyOf(got)
		other, f := rates.Decide(l, certified)
		overwriteRounds(l)
		sameRounds(t, "Decide", got, want, e)
		l = roomyRounds(x.l)
		was := wholeRounds(l)
		third, e := rates.Decide(l, certified)
		overwriteRounds(got)
		sameRounds(t, "the argument of Decide", wholeRounds(l), was, e)
		sameRounds(t, "another result of Decide", other, want, f)
		overwriteRounds(third)
		sameRounds(t, "the argument of Decide", wholeRounds(l), was, api.OK)
		// The crew of one round does not share memory with that of another one.
		overwrite(other[0].Crew, -7)
		other[0].Crew = append(other[0].Crew, -7)
		sameRounds(t, "the other rounds", other[1:], want[1:], api.OK)
	}
}

// fresh checks that a list that a function returns shares no memory with what it returned before, and with what it was given.
func fresh[T comparable](t *testing.T, what string, x args, call func(x args) ([]T, api.Errno)) {
	t.Helper()
	ps, old, now, weights := slices.Clone(x.ps), slices.Clone(x.old), slices.Clone(x.now), slices.Clone(x.weights)
	l := copyOf(x.l)
	first, e := call(x)
	want := slices.Clone(first)
	second, f := call(x)
	if len(first) == 0 || max(e, f) != api.OK {
		t.Error(what, first, e, f)
	}
	var none T
	overwrite(first, none)
	same(t, what+", a further result", second, want, f)
	third, e := call(x)
	same(t, what+", a later result", third, want, e)
	same(t, what+", the policies", x.ps, ps, api.OK)
	sameRounds(t, what+", the rounds", x.l, l, api.OK)
	same(t, what+", the old postings", x.old, old, api.OK)
	same(t, what+", the new postings", x.now, now, api.OK)
	same(t, what+", the weights", x.weights, weights, api.OK)
	overwrite(x.ps, api.Policy{})
	overwrite(x.old, api.Posting{})
	overwrite(x.now, api.Posting{})
	overwrite(x.weights, -1)
	overwriteRounds(x.l)
	same(t, what+", when the arguments are gone", third, want, api.OK)
}

func TestR6Results(t *testing.T) {
	fresh(t, "Split", manyArgs(), func(x args) ([]int, api.Errno) { return rates.Split(x.amount, x.weights) })
	fresh(t, "Night", manyArgs(), func(x args) ([]api.Posting, api.Errno) { return rates.Night(x.p, x.night, x.l) })
	fresh(t, "Season", manyArgs(), func(x args) ([]api.Posting, api.Errno) { return rates.Season(x.ps, x.l, x.nights) })
	fresh(t, "Balances", manyArgs(), func(x args) ([]api.Change, api.Errno) { return rates.Balances(x.old) })
	fresh(t, "Settle", manyArgs(), func(x args) ([]api.Posting, api.Errno) { return rates.Settle(x.old) })
	fresh(t, "Correct", manyArgs(), func(x args) ([]api.Posting, api.Errno) { return rates.Correct(x.old, x.now) })
	fresh(t, "Correct from nothing", manyArgs(), func(x args) ([]api.Posting, api.Errno) { return rates.Correct(nil, x.now) })
	fresh(t, "Correct to nothing", manyArgs(), func(x args) ([]api.Posting, api.Errno) { return rates.Correct(x.old, nil) })
	fresh(t, "Moved", manyArgs(), func(x args) ([]api.Change, api.Errno) { return rates.Moved(x.old, x.now) })
	fresh(t, "Rests", manyArgs(), func(x args) ([][2]int, api.Errno) { return rates.Rests(x.ps, x.l, x.nights, x.which) })
	fresh(t, "Earned", manyArgs(), func(x args) ([]int, api.Errno) { return rates.Earned(x.old, x.id, x.nights) })
	text, _ := rates.Print(manyArgs().old)
	fresh(t, "Parse", manyArgs(), func(args) ([]api.Posting, api.Errno) { return rates.Parse(text) })
}
