package office_test

import (
	"testing"

	"patrol/api"
	"patrol/office"
)

// roundDial returns the fact of a dial with a number, which is that of a round of a night.
func roundDial(office, no, known, number, night, round int, crew ...int) api.Fact {
	f := dialFact(office, no, known, exampleDial())
	f.Dial.No, f.Dial.Night, f.Dial.Round, f.Dial.Crew = number, night, round, crew
	return f
}

// manyDials returns n dials with different rounds, from the last one to the first one, all of them known at the time 1; there are not more than 300.
func manyDials(n int) []api.Fact {
	var l []api.Fact
	for k := range n {
		r := n - 1 - k
		l = append(l, roundDial(k/api.MaxNo+1, k%api.MaxNo+1, 1, k+1, r/api.MaxRounds, r%api.MaxRounds+1, 5))
	}
	return l
}

func TestP8_5Rounds(t *testing.T) {
	l := exampleFacts()
	doubtful, certified := api.Round{Night: 3, No: 1, Kind: api.VeDoubtful, Crew: []int{9}}, api.Round{Night: 3, No: 1, Kind: api.VeCertified, Crew: []int{9}}
	for known, want := range map[int][]api.Round{4: nil, 5: {doubtful}, 60000: {doubtful}, 70000: {certified}, 79999: {certified}, 80000: {doubtful}} {
		got, e := office.Rounds(l, known)
		same(t, "Rounds", got, e, want)
	}
	// Every state but that of a judged dial is doubtful; every verdict is told.
	void := exampleFacts()[1]
	void.Dial.Start = 2
	failed := exampleFacts()[1]
	failed.Dial.Order = sourced("mill")
	for k, x := range []struct {
		l    []api.Fact
		want int
	}{
		{facts(l[0], void, l[2]), api.VeVoid}, {facts(l[0], failed, l[2]), api.VeFailed}, {facts(failed, l[2]), api.VeDoubtful}, {facts(l[0], failed), api.VeDoubtful},
		{facts(l[0], failed, l[2], lookFact(4, 1, 1, 7, 9)), api.VeDoubtful}, {facts(l[0], failed, lookFact(4, 1, 1, 7, 9, api.Mark{At: arc(20000, 0)})), api.VeDoubtful},
	} {
		got, e := office.Rounds(x.l, 60000)
		if len(got) != 1 || got[0].Kind != x.want || e != api.OK {
			t.Error("Rounds", k, got, e)
		}
	}
	// In the order of nights, and of rounds; of several dials of a round the one with the least number counts, whatever is known of it, and whenever it became known.
	got, e := office.Rounds(facts(
		roundDial(1, 1, 1, 9, 5, 1, 1), roundDial(1, 2, 1, 8, 4, 12, 2), roundDial(1, 3, 1, 7, 4, 2, 3), roundDial(1, 4, 9, 6, 4, 2, 4, 5), roundDial(1, 5, 3, 10, 4, 2, 6), roundDial(1, 6, 1, api.MaxID, 0, 1, 7),
	), 20)
	same(t, "Rounds", got, e, []api.Round{
		{Night: 0, No: 1, Kind: api.VeDoubtful, Crew: []int{7}}, {Night: 4, No: 2, Kind: api.VeDoubtful, Crew: []int{4, 5}}, {Night: 4, No: 12, Kind: api.VeDoubtful, Crew: []int{2}}, {Night: 5, No: 1, Kind: api.VeDoubtful, Crew: []int{1}},
	})
	// A dial that was corrected is in its new round alone.
	got, e = office.Rounds(facts(roundDial(1, 1, 1, 9, 5, 1, 1), roundDial(1, 2, 2, 9, 6, 1, 1)), 20)
	same(t, "Rounds of a dial that was corrected", got, e, []api.Round{{Night: 6, No: 1, Kind: api.VeDoubtful, Crew: []int{1}}})
}

func TestP8_5Limit(t *testing.T) {
	got, e := office.Rounds(manyDials(api.MaxSeason), 1)
	if len(got) != api.MaxSeason || e != api.OK || got[0].Night != 0 || got[199].Night != 16 {
		t.Error("Rounds", len(got), e)
	}
	many := manyDials(api.MaxSeason + 1)
	got, e = office.Rounds(many, 1)
	none(t, "too many rounds", got, e, api.ErrLimit)
	got, e = office.Rounds(many, 0)
	same(t, "rounds that are not known yet", got, e, nil)
	// Two dials of one round are one round.
	many[0].Dial.Night, many[0].Dial.Round = 0, 1
	got, e = office.Rounds(many, 1)
	if len(got) != api.MaxSeason || e != api.OK {
		t.Error("Rounds of more dials", len(got), e)
	}
	all, e := office.View(many, 1)
	if len(all) != api.MaxSeason+1 || e != api.OK {
		t.Error("View", len(all), e)
	}
}

// manyPolicies returns n policies since different nights, the last one ahead, all of them known at the time 1.
func manyPolicies(n int) []api.Fact {
	var l []api.Fact
	for k := range n {
		l = append(l, policyFact(8, k+1, 1, api.Policy{Since: n - 1 - k, Base: k + 1}))
	}
	return l
}

func TestP8_6Policies(t *testing.T) {
	got, e := office.Policies(manyPolicies(api.MaxPolicies), 1)
	if len(got) != api.MaxPolicies || e != api.OK || got[0] != (api.Policy{Base: 20}) || got[19] != (api.Policy{Since: 19, Base: 1}) {
		t.Error("Policies", got, e)
	}
	many := manyPolicies(api.MaxPolicies + 1)
	got, e = office.Policies(many, 1)
	none(t, "too many policies", got, e, api.ErrLimit)
	got, e = office.Policies(with(many, withdrawal(1, 1, 1, name(8, 3))), 1)
	if len(got) != api.MaxPolicies || e != api.OK {
		t.Error("Policies without one that is withdrawn", got, e)
	}
	p := func(office, no, known, since, base int) api.Fact {
		return policyFact(office, no, known, api.Policy{Since: since, Base: base})
	}
	l := facts(p(1, 1, 5, 3, 10), p(1, 2, 5, 3, 11), p(2, 1, 4, 3, 12), p(1, 3, 9, 3, 13), p(1, 4, 2, 1, 14), p(3, 1, 2, 1, 15), p(2, 9, 2, 1, 16))
	for known, want := range map[int][]api.Policy{0: nil, 2: {{Since: 1, Base: 15}}, 4: {{Since: 1, Base: 15}, {Since: 3, Base: 12}}, 5: {{Since: 1, Base: 15}, {Since: 3, Base: 11}}, 9: {{Since: 1, Base: 15}, {Since: 3, Base: 13}}} {
		got, e := office.Policies(l, known)
		same(t, "Policies", got, e, want)
	}
}

func TestP8_7Ledgers(t *testing.T) {
	l := with(exampleFacts(), policyFact(4, 1, 1, api.Policy{Since: 2, Base: 500, Credit: 40, Charge: 100, Doubt: 30, Cap: 60, Bonus: 250}))
	post := func(night, no, from, to, amount int) api.Posting {
		return api.Posting{Night: night, No: no, From: from, To: to, Amount: amount}
	}
	base := func(night int) api.Posting { return post(night, 0, -1, -2, 500) }
	doubt := post(3, 1, -1, -2, 30)
	for _, x := range []struct {
		known  int
		nights api.Span
		want   []api.Posting
	}{
		{0, span(0, 9), nil}, {1, span(1, 3), []api.Posting{base(2), base(3)}}, {5, span(3, 3), []api.Posting{base(3), doubt}},
		{60000, span(2, 4), []api.Posting{base(2), base(3), doubt, base(4)}}, {60000, span(4, 4), []api.Posting{base(4)}},
		{70000, span(3, 3), []api.Posting{base(3), post(3, 1, -2, -1, 40), post(3, 1, -1, 9, 10)}},
	} {
		got, e := office.Ledger(l, x.known, x.nights)
		same(t, "Ledger", got, e, x.want)
	}
	got, e := office.Amend(l, 60000, 70000, span(0, 9))
	same(t, "Amend", got, e, []api.Posting{post(3, 1, -2, -1, 30), post(3, 1, -2, -1, 40), post(3, 1, -1, 9, 10)})
	got, e = office.Amend(l, 70000, 60000, span(0, 9))
	same(t, "Amend backwards", got, e, []api.Posting{post(3, 1, -1, -2, 40), post(3, 1, 9, -1, 10), doubt})
	got, e = office.Amend(l, 60000, 90000, span(0, 9))
	same(t, "Amend of what was withdrawn meanwhile", got, e, nil)
	got, e = office.Amend(l, 0, 5, span(3, 3))
	same(t, "Amend from nothing", got, e, []api.Posting{base(3), doubt})
	got, e = office.Amend(l, 5, 5, span(3, 3))
	same(t, "Amend of nothing", got, e, nil)
}

// TestP8_7Errors checks which error comes first.
func TestP8_7Errors(t *testing.T) {
	rounds, policies := manyDials(api.MaxSeason+1), manyPolicies(api.MaxPolicies+1)
	backwards, long := span(2, 1), span(0, api.MaxNights)
	for k, x := range []struct {
		l      []api.Fact
		nights api.Span
		want   api.Errno
	}{
		{policies, span(0, 1), api.ErrLimit}, {rounds, span(0, 1), api.ErrLimit}, {rounds, span(300, 301), api.ErrLimit},
		{policies, backwards, api.ErrLimit}, {rounds, backwards, api.ErrLimit}, {with(rounds, policies...), backwards, api.ErrLimit},
		{exampleFacts(), backwards, api.ErrArg}, {exampleFacts(), span(-1, 1), api.ErrArg}, {exampleFacts(), span(0, api.MaxNight+1), api.ErrArg}, {exampleFacts(), span(minInt, maxInt), api.ErrArg}, {nil, backwards, api.ErrArg},
		{exampleFacts(), long, api.ErrLimit}, {exampleFacts(), span(0, api.MaxNights-1), api.OK}, {exampleFacts(), span(api.MaxNight, api.MaxNight), api.OK},
	} {
		got, e := office.Ledger(x.l, api.MaxTime, x.nights)
		none(t, "Ledger", got, e, x.want)
		for _, times := range [][2]int{{0, api.MaxTime}, {api.MaxTime, 0}, {api.MaxTime, api.MaxTime}} {
			got, e := office.Amend(x.l, times[0], times[1], x.nights)
			if e != x.want && (e != api.ErrArg || x.nights != backwards || times[0] != 0) || len(got) > 0 {
				t.Error("Amend", k, times, got, e)
			}
		}
	}
	// The first ledger's error comes first, whichever it is.
	got, e := office.Amend(rounds, 0, 1, backwards)
	none(t, "Amend", got, e, api.ErrArg)
	got, e = office.Amend(rounds, 1, 0, backwards)
	none(t, "Amend", got, e, api.ErrLimit)
}

// TestP8_7Long corrects the longest ledgers.
func TestP8_7Long(t *testing.T) {
	l := manyDials(api.MaxSeason)
	for k, f := range l {
		l[k].Dial.Crew = []int{2, 3, 5, 8}
		l[k].Dial.Night = f.Dial.Night * 20
	}
	l = with(l, settingFact(5, 1, 1, exampleSetting()))
	l[api.MaxSeason].Setting.House.Ways = nil // so that there is a verdict, and a short search for it
	for k := range 90 {
		office, no := 5+(k+2)/api.MaxNo, (k+2)%api.MaxNo+1
		l = append(l, lookFact(office, no, 2, k+1, 4, exampleMarks()[0]))
		l[k].Dial.Order = sourced("gate")
	}
	l = append(l, policyFact(8, 1, 1, api.Policy{Base: 1000, Credit: 17, Doubt: 3, Charge: 5, Cap: 1000, Bonus: 900}))
	nights := span(0, api.MaxNights-1)
	old, e := office.Ledger(l, 1, nights)
	if len(old) != api.MaxNights+api.MaxSeason || e != api.OK {
		t.Error("Ledger", len(old), e)
	}
	now, e := office.Ledger(l, 2, nights)
	if len(now) != api.MaxNights+api.MaxSeason+4*90 || e != api.OK {
		t.Error("Ledger", len(now), e)
	}
	got, e := office.Amend(l, 1, 2, nights)
	if len(got) != 90*6 || e != api.OK {
		t.Error("Amend", len(got), e)
	}
}

func TestP8_8Books(t *testing.T) {
	book := func(gaps int) api.Custody {
		c := richCustody()
		c.Gaps = gaps
		return c
	}
	l := facts(custodyFact(1, 1, 5, book(0)), custodyFact(1, 2, 5, book(1)), custodyFact(2, 1, 4, book(2)), custodyFact(1, 3, 7, book(3)), withdrawal(3, 1, 9, name(1, 3)), withdrawal(3, 2, 10, name(1, 2)))
	for known, want := range map[int]int{4: 2, 5: 1, 6: 1, 7: 3, 8: 3, 9: 1, 10: 0, 11: 0} {
		got, e := office.Book(l, known)
		same(t, "Book", got, e, book(want))
	}
	for _, l := range [][]api.Fact{nil, exampleFacts(), l} {
		got, e := office.Book(l, 3)
		none(t, "Book", got, e, api.ErrNone)
	}
	got, e := office.Book(facts(custodyFact(1, 1, 5, api.Custody{})), 5)
	same(t, "an empty book", got, e, api.Custody{})
}
