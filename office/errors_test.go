package office_test

import (
	"slices"
	"testing"

	"patrol/api"
	"patrol/office"
)

// args are arguments of the functions of the section Views.
type args struct {
	l                          []api.Fact
	known, before, after, dial int
	nights                     api.Span
	name                       api.Name
}

// rightArgs are those of the chapter's examples, with a policy and a custody book.
func rightArgs() args {
	l := with(exampleFacts(), policyFact(4, 1, 1, richPolicy()), custodyFact(4, 2, 1, richCustody()))
	return args{l: l, known: 70000, before: 60000, after: 70000, dial: 7, nights: span(3, 4), name: name(3, 1)}
}

// outcome is what a call returned: its error, and whether its other result was zero.
type outcome struct {
	e    api.Errno
	zero bool
}

// outcomeOf returns what a call returned.
func outcomeOf[T any](got T, e api.Errno) outcome {
	var zero T
	return outcome{e, isEqual(got, zero)}
}

// calls returns the outcome of each function of the section Views.
func calls(x args) map[string]outcome {
	return map[string]outcome{
		"Standing": outcomeOf(office.Standing(x.l, x.known)),
		"Case":     outcomeOf(office.Case(x.l, x.known, x.dial)),
		"Judge":    outcomeOf(office.Judge(x.l, x.known, x.dial)),
		"View":     outcomeOf(office.View(x.l, x.known)),
		"Rounds":   outcomeOf(office.Rounds(x.l, x.known)),
		"Policies": outcomeOf(office.Policies(x.l, x.known)),
		"Ledger":   outcomeOf(office.Ledger(x.l, x.known, x.nights)),
		"Amend":    outcomeOf(office.Amend(x.l, x.before, x.after, x.nights)),
		"Book":     outcomeOf(office.Book(x.l, x.known)),
		"Rests":    outcomeOf(office.Rests(x.l, x.known, x.name)),
	}
}

// allFail checks that all functions return an error, and nothing else.
func allFail(t *testing.T, what string, x args, want api.Errno) {
	t.Helper()
	for name, got := range calls(x) {
		if got.e != want || !got.zero {
			t.Error(what, name, got, want)
		}
	}
}

func TestNoErrors(t *testing.T) {
	for name, got := range calls(rightArgs()) {
		if got.e != api.OK || got.zero {
			t.Error(name, got)
		}
	}
}

// TestErrorsOfLists checks that the errors of lists come ahead of all others, also if they are those of facts that do not count.
func TestErrorsOfLists(t *testing.T) {
	right := rightArgs()
	late := api.MaxTime
	invalid := policyFact(8, 1, late, api.Policy{Bonus: -1})
	clash := policyFact(4, 1, late, richPolicy())
	for _, x := range []struct {
		l    []api.Fact
		want api.Errno
	}{
		{slices.Repeat(right.l[:1], api.MaxFacts+1), api.ErrLimit}, {with(right.l, invalid), api.ErrArg}, {with(facts(invalid), right.l...), api.ErrArg}, {with(right.l, clash), api.ErrClash},
		{with(right.l, clash, invalid), api.ErrClash}, {with(right.l, invalid, clash), api.ErrArg}, {with(right.l, withdrawal(8, 2, 1, name(8, 1)), invalid), api.ErrArg},
		{with(right.l, withdrawal(8, 2, 1, name(4, 1)), clash), api.ErrClash}, {slices.Repeat(with(right.l, invalid), 40), api.ErrLimit},
	} {
		y := right
		y.l = x.l
		allFail(t, "a list", y, x.want)
		y.known, y.before, y.after, y.dial, y.nights, y.name = -1, -1, -1, 0, span(2, 1), api.Name{}
		allFail(t, "a list, and other arguments that are wrong", y, x.want)
	}
}

// TestErrorsOfTimes checks that the error of a time comes behind that of the list, and ahead of all others.
func TestErrorsOfTimes(t *testing.T) {
	for _, known := range []int{minInt, -1, api.MaxTime + 1, maxInt} {
		x := rightArgs()
		x.known, x.before = known, known
		allFail(t, "a time", x, api.ErrArg)
		x.before, x.after = 0, known
		allFail(t, "a time", x, api.ErrArg)
		x.l = with(slices.Concat(manyDials(api.MaxSeason+1), manyPolicies(api.MaxPolicies+1)))
		x.dial, x.nights, x.name = 0, span(2, 1), api.Name{}
		allFail(t, "a time, and other arguments that are wrong", x, api.ErrArg)
		x.l = nil
		allFail(t, "a time, and no facts", x, api.ErrArg)
	}
	for _, known := range []int{0, api.MaxTime} {
		x := rightArgs()
		x.known, x.before, x.after = known, known, known
		for name, got := range calls(x) {
			if got.e == api.ErrArg {
				t.Error(name, known, got)
			}
		}
	}
}
