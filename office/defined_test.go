package office_test

import (
	"slices"
	"testing"

	"patrol/api"
	"patrol/dial"
	"patrol/office"
	"patrol/rates"
	"patrol/round"
)

// The functions of this file are the definitions of the chapter, word for word: each of them looks at a whole list.

func definedStands(l []api.Fact, known int, f api.Fact) bool {
	if f.Known > known {
		return false
	}
	if f.Kind == api.FaWithdraw {
		return true
	}
	for _, x := range l {
		if x.Kind == api.FaWithdraw && x.Known <= known && x.Target == nameOf(f) {
			return false
		}
	}
	return true
}

// definedFacts returns the facts of a kind that stand, and for which a function says so.
func definedFacts(l []api.Fact, known, kind int, is func(f api.Fact) bool) []api.Fact {
	var some []api.Fact
	for _, f := range l {
		if f.Kind == kind && definedStands(l, known, f) && is(f) {
			some = append(some, f)
		}
	}
	return some
}

func definedLater(a, b api.Fact) bool {
	if a.Known != b.Known {
		return a.Known > b.Known
	}
	if a.Office != b.Office {
		return a.Office > b.Office
	}
	return a.No > b.No
}

// definedLatest returns a fact than which none is later; false if there are no facts.
func definedLatest(l []api.Fact) (api.Fact, bool) {
	for _, f := range l {
		if !slices.ContainsFunc(l, func(x api.Fact) bool { return definedLater(x, f) }) {
			return f, true
		}
	}
	return api.Fact{}, false
}

func definedDial(l []api.Fact, known, no int) (api.Dial, bool) {
	f, is := definedLatest(definedFacts(l, known, api.FaDial, func(f api.Fact) bool { return f.Dial.No == no }))
	return f.Dial, is
}

func definedSetting(l []api.Fact, known int, d api.Dial) (api.Setting, bool) {
	greatest := -1
	for _, f := range definedFacts(l, known, api.FaSetting, func(f api.Fact) bool { return f.Setting.Since <= d.Session.In.Lo }) {
		greatest = max(greatest, f.Setting.Since)
	}
	f, is := definedLatest(definedFacts(l, known, api.FaSetting, func(f api.Fact) bool { return f.Setting.Since == greatest }))
	return f.Setting, is
}

func definedLooks(l []api.Fact, known, no int) []api.Look {
	var looks []api.Look
	for reader := 1; reader <= 5; reader++ {
		f, is := definedLatest(definedFacts(l, known, api.FaLook, func(f api.Fact) bool { return f.Look.Dial == no && f.Look.Reader == reader }))
		if is {
			looks = append(looks, f.Look)
		}
	}
	return looks
}

// definedMarks returns the marks of some looks; false if they are disputed.
func definedMarks(looks []api.Look) ([]api.Mark, bool) {
	for _, look := range looks {
		if len(look.Marks) != len(looks[0].Marks) {
			return nil, false
		}
	}
	var marks []api.Mark
	for k, m := range looks[0].Marks {
		for _, look := range looks[1:] {
			sharp, e := dial.Sharpen(m, look.Marks[k])
			if e != api.OK {
				return nil, false
			}
			m = sharp
		}
		marks = append(marks, m)
	}
	return marks, true
}

// definedCase returns the case of a dial, and its state; 0 if there is no such dial.
func definedCase(l []api.Fact, known, no int) (api.Case, int) {
	d, is := definedDial(l, known, no)
	if !is {
		return api.Case{}, 0
	}
	s, is := definedSetting(l, known, d)
	if !is {
		return api.Case{}, api.DiBare
	}
	looks := definedLooks(l, known, no)
	if len(looks) == 0 {
		return api.Case{}, api.DiUnread
	}
	marks, is := definedMarks(looks)
	if !is {
		return api.Case{}, api.DiDisputed
	}
	c := api.Case{House: s.House, Ink: s.Ink, Keys: s.Keys, Stations: s.Stations, Session: d.Session, Start: d.Start, Since: d.Since, Order: d.Order, Marks: marks}
	if round.Measure(c) != api.OK {
		return c, api.DiWrong
	}
	return c, api.DiJudged
}

func definedJudge(l []api.Fact, known, no int) (api.Judged, api.Errno) {
	c, state := definedCase(l, known, no)
	if state == 0 {
		return api.Judged{}, api.ErrNone
	}
	d, _ := definedDial(l, known, no)
	j := api.Judged{No: no, Night: d.Night, Round: d.Round, State: state}
	switch state {
	case api.DiJudged:
		j.Kind, _ = round.Certify(c)
	case api.DiWrong:
		j.Errno = round.Measure(c)
	}
	return j, api.OK
}

func definedCaseErrno(l []api.Fact, known, no int) api.Errno {
	c, state := definedCase(l, known, no)
	switch state {
	case 0:
		return api.ErrNone
	case api.DiBare, api.DiUnread:
		return api.ErrState
	case api.DiDisputed:
		return api.ErrClash
	}
	return round.Check(c)
}

// definedRounds returns the rounds of the dials with the numbers 1 to 5.
func definedRounds(l []api.Fact, known int) []api.Round {
	var rounds []api.Round
	for night := range 4 {
		for no := range 3 {
			for number := 1; number <= 5; number++ {
				d, is := definedDial(l, known, number)
				if !is || d.Night != night || d.Round != no {
					continue
				}
				j, _ := definedJudge(l, known, number)
				if j.State != api.DiJudged {
					j.Kind = api.VeDoubtful
				}
				rounds = append(rounds, api.Round{Night: night, No: no, Kind: j.Kind, Crew: d.Crew})
				break
			}
		}
	}
	return rounds
}

// definedPolicies returns the policies that are in force since the nights 0 to 9.
func definedPolicies(l []api.Fact, known int) []api.Policy {
	var policies []api.Policy
	for since := range 10 {
		f, is := definedLatest(definedFacts(l, known, api.FaPolicy, func(f api.Fact) bool { return f.Policy.Since == since }))
		if is {
			policies = append(policies, f.Policy)
		}
	}
	return policies
}

// without returns a list without the facts with a name.
func without(l []api.Fact, n api.Name) []api.Fact {
	return slices.DeleteFunc(slices.Clone(l), func(f api.Fact) bool { return nameOf(f) == n })
}

func definedRests(l []api.Fact, known int, n api.Name) []int {
	var rest []int
	for no := 1; no <= 5; no++ {
		a, e := definedJudge(l, known, no)
		b, f := definedJudge(without(l, n), known, no)
		if a != b || e != f {
			rest = append(rest, no)
		}
	}
	return rest
}

// TestP8_2 to TestP8_9 compare what the functions return with what the chapter says, for lists of facts that chance makes, at all times at which something is known.

func TestP8_2(t *testing.T) {
	tries(2, 200, func(c *chance, l []api.Fact) {
		for known := range lastKnown + 1 {
			var want []api.Name
			for _, f := range sorted(l) {
				if definedStands(l, known, f) {
					want = append(want, nameOf(f))
				}
			}
			got, e := office.Standing(c.repeated(l), known)
			same(t, "Standing", got, e, want)
		}
	})
}

func TestP8_3(t *testing.T) {
	found := 0
	tries(3, 600, func(c *chance, l []api.Fact) {
		known := c.n(lastKnown + 1)
		for no := range 6 {
			got, e := office.Case(c.repeated(l), known, no)
			if want := definedCaseErrno(l, known, no); want != api.OK {
				none(t, "Case", got, e, want)
				continue
			}
			want, _ := definedCase(l, known, no)
			same(t, "Case", got, e, want)
			found++
		}
	})
	if found < 100 {
		t.Error("not an even test:", found)
	}
}

func TestP8_4(t *testing.T) {
	tries(4, 200, func(c *chance, l []api.Fact) {
		known := c.n(lastKnown + 1)
		var all []api.Judged
		for no := range 6 {
			got, e := office.Judge(c.repeated(l), known, no)
			want, f := definedJudge(l, known, no)
			if got != want || e != f {
				t.Error("Judge", got, e, want, f)
			}
			if f == api.OK {
				all = append(all, want)
			}
		}
		got, e := office.View(c.repeated(l), known)
		same(t, "View", got, e, all)
	})
}

func TestP8_5(t *testing.T) {
	tries(5, 300, func(c *chance, l []api.Fact) {
		known := c.n(lastKnown + 1)
		got, e := office.Rounds(c.repeated(l), known)
		same(t, "Rounds", got, e, definedRounds(l, known))
		if e, at := rates.CheckRounds(got); e != api.OK {
			t.Error("CheckRounds", e, at)
		}
	})
}

func TestP8_6(t *testing.T) {
	tries(6, 300, func(c *chance, l []api.Fact) {
		for known := range lastKnown + 1 {
			got, e := office.Policies(c.repeated(l), known)
			same(t, "Policies", got, e, definedPolicies(l, known))
		}
	})
}

func TestP8_7(t *testing.T) {
	corrected := 0
	tries(7, 300, func(c *chance, l []api.Fact) {
		before, after := c.n(lastKnown+1), c.n(lastKnown+1)
		nights := [...]api.Span{span(0, 4), span(1, 2), span(2, 2), span(5, 300)}[c.n(4)]
		old, _ := rates.Season(definedPolicies(l, before), definedRounds(l, before), nights)
		got, e := office.Ledger(c.repeated(l), before, nights)
		same(t, "Ledger", got, e, old)
		now, _ := rates.Season(definedPolicies(l, after), definedRounds(l, after), nights)
		want, _ := rates.Correct(old, now)
		got, e = office.Amend(c.repeated(l), before, after, nights)
		same(t, "Amend", got, e, want)
		corrected += len(got)
	})
	if corrected < 300 {
		t.Error("not an even test:", corrected)
	}
}

func TestP8_8(t *testing.T) {
	tries(8, 300, func(c *chance, l []api.Fact) {
		for known := range lastKnown + 1 {
			got, e := office.Book(c.repeated(l), known)
			f, is := definedLatest(definedFacts(l, known, api.FaCustody, func(api.Fact) bool { return true }))
			if !is {
				none(t, "Book", got, e, api.ErrNone)
				continue
			}
			same(t, "Book", got, e, f.Custody)
		}
	})
}

func TestP8_9(t *testing.T) {
	resting := 0
	tries(9, 120, func(c *chance, l []api.Fact) {
		known := c.n(lastKnown + 1)
		for _, f := range append(c.facts(2), l...) {
			got, e := office.Rests(c.repeated(l), known, nameOf(f))
			if !slices.ContainsFunc(l, func(x api.Fact) bool { return nameOf(x) == nameOf(f) && x.Known <= known }) {
				none(t, "Rests", got, e, api.ErrNone)
				continue
			}
			same(t, "Rests", got, e, definedRests(l, known, nameOf(f)))
			resting += len(got)
		}
	})
	if resting < 200 {
		t.Error("not an even test:", resting)
	}
}
