package tribunal_test

import (
	"slices"
	"testing"

	"patrol/api"
	"patrol/office"
	"patrol/round"
	"patrol/tribunal"
)

// changed returns the facts of the examples, with a policy and a custody book, of which one was changed.
func changed(k int, change func(f *api.Fact)) []api.Fact {
	l := fullFacts()
	change(&l[k])
	return l
}

// answers checks an answer without readings and proofs.
func answers(t *testing.T, l []api.Fact, q api.Question, want api.Reply) {
	t.Helper()
	r := tribunal.Answer(l, q)
	if !isEqual(r, want) {
		t.Errorf("%v: %s, not %s", q, short(r), short(want))
	}
	if e := tribunal.Accept(l, q, r); e != api.OK {
		t.Errorf("%v: %s is not accepted: %d", q, short(r), e)
	}
}

// refuses checks that an answer is an error, and nothing else.
func refuses(t *testing.T, l []api.Fact, q api.Question, want api.Errno) {
	t.Helper()
	answers(t, l, q, api.Reply{Errno: want})
}

// judgedAs is what follows for the dial of the examples.
func judgedAs(state, kind int, e api.Errno) api.Judged {
	return api.Judged{No: 7, Night: 3, Round: 1, State: state, Kind: kind, Errno: e}
}

// TestP9_2Verdict checks the answers for verdicts of each kind, and for dials that are not judged.
func TestP9_2Verdict(t *testing.T) {
	failing := func(f *api.Fact) { f.Dial.Order = sourced("mill") }
	void := func(f *api.Fact) { f.Dial.Start = 2 }
	for _, x := range []struct {
		l        []api.Fact
		known    int
		kind     int
		readings []bool
		proofs   int
	}{
		{fullFacts(), 60000, api.VeDoubtful, []bool{true, false}, 0}, {fullFacts(), 70000, api.VeCertified, []bool{true}, 0}, {fullFacts(), api.MaxTime, api.VeDoubtful, []bool{true, false}, 0},
		{changed(1, failing), 60000, api.VeFailed, []bool{false}, 0}, {changed(1, void), 60000, api.VeVoid, nil, 4}, {changed(1, void), 70000, api.VeVoid, nil, 3},
	} {
		q := verdict(x.known, 7)
		r := tribunal.Answer(x.l, q)
		c, e := office.Case(x.l, x.known, 7)
		if e != api.OK || r.Judged != judgedAs(api.DiJudged, x.kind, api.OK) || len(r.Readings) != len(x.readings) || len(r.Proofs) != x.proofs {
			t.Error("a verdict", q, r, e)
			continue
		}
		for k, right := range x.readings {
			if !isWitness(c, r.Readings[k], right) {
				t.Error("a reading", q, r)
			}
		}
		if !isAnswer(x.l, q, r) || tribunal.Accept(x.l, q, r) != api.OK {
			t.Error("the answer", q, r)
		}
	}
	for state, x := range map[int]struct {
		l []api.Fact
		e api.Errno
	}{
		api.DiBare: {fullFacts()[1:], api.OK}, api.DiUnread: {fullFacts()[:2], api.OK}, api.DiDisputed: {with(fullFacts(), lookFact(5, 1, 1, 7, 9)), api.OK},
		api.DiWrong: {changed(1, func(f *api.Fact) { f.Dial.Start = 3 }), api.ErrArg},
	} {
		answers(t, x.l, verdict(70000, 7), api.Reply{Judged: judgedAs(state, 0, x.e)})
	}
	answers(t, changed(2, func(f *api.Fact) { f.Look.Marks[0].At.From = 20000 }), verdict(60000, 7), api.Reply{Judged: judgedAs(api.DiWrong, 0, api.ErrRange)})
	answers(t, large(), verdict(60000, 7), api.Reply{Judged: judgedAs(api.DiWrong, 0, api.ErrLimit)})
	refuses(t, fullFacts(), verdict(4, 7), api.ErrNone)
	refuses(t, fullFacts(), verdict(60000, 6), api.ErrNone)
}

// TestP9_2VoidRecords asks for the verdict on a dial whose record contradicts itself, and on one with a mark that no key can have left: then there are sequences with empty refutations, or none at all.
func TestP9_2VoidRecords(t *testing.T) {
	early := changed(1, func(f *api.Fact) { f.Dial.Session.Out = span(30500, 30600) })
	r := tribunal.Answer(early, verdict(60000, 7))
	same(t, "a record that contradicts itself", r, tribunal.Accept(early, verdict(60000, 7), r), api.Reply{Judged: judgedAs(api.DiJudged, api.VeVoid, api.OK), Proofs: make([][]api.Raise, 4)})
	strange := changed(2, func(f *api.Fact) { f.Look.Marks[0] = api.Mark{At: arc(1000, 0), Seen: 4095} })
	answers(t, strange, verdict(60000, 7), api.Reply{Judged: judgedAs(api.DiJudged, api.VeVoid, api.OK)})
	// Without marks there is one reading, the empty one, which fulfils no order.
	empty := changed(2, func(f *api.Fact) { f.Look.Marks = nil })
	answers(t, empty, verdict(60000, 7), api.Reply{Judged: judgedAs(api.DiJudged, api.VeFailed, api.OK), Readings: []api.Reading{{}}})
	answers(t, empty, missed(60000, 7, "mill"), api.Reply{Yes: true})
}

// large returns facts of which a case follows that is too large to be judged.
func large() []api.Fact {
	return changed(2, func(f *api.Fact) { f.Look.Marks = slices.Repeat(exampleMarks()[1:2], 3) })
}

// loose returns facts of which a case follows that is too loose to be judged.
func loose() []api.Fact {
	return changed(1, func(f *api.Fact) { f.Dial.Session.In.Hi, f.Dial.Session.Out.Hi = 32400, 44000 })
}

func TestP9_2Missed(t *testing.T) {
	l := fullFacts()
	for _, x := range []struct {
		l     []api.Fact
		known int
		place string
		yes   bool
	}{
		{l, 60000, "gate", false}, {l, 60000, "mill", false}, {l, 60000, "loft", false}, {l, 70000, "mill", false},
		{with(l, lookFact(5, 1, 1, 7, 9, loftMarks()...)), 60000, "mill", true}, {with(l, lookFact(5, 1, 1, 7, 9, loftMarks()...)), 60000, "gate", false},
		{changed(1, func(f *api.Fact) { f.Dial.Start = 2 }), 60000, "gate", true}, {changed(1, func(f *api.Fact) { f.Dial.Start = 2 }), 60000, "loft", true},
	} {
		q := missed(x.known, 7, x.place)
		r := tribunal.Answer(x.l, q)
		if r.Errno != api.OK || r.Yes != x.yes || !isAnswer(x.l, q, r) || tribunal.Accept(x.l, q, r) != api.OK {
			t.Error("missed", q, r)
		}
	}
	stationErrors(t, missed)
	// Whether the case is measured is looked at last.
	refuses(t, large(), missed(60000, 7, "mill"), api.ErrLimit)
	refuses(t, loose(), missed(60000, 7, "mill"), api.ErrRange)
}

// stationErrors checks the errors that come first for all questions about stations.
func stationErrors(t *testing.T, ask func(known, dial int, place string) api.Question) {
	t.Helper()
	caseErrors(t, func(known, dial int) api.Question { return ask(known, dial, "tower") })
	caseErrors(t, func(known, dial int) api.Question { return ask(known, dial, "mill") })
	for _, l := range [][]api.Fact{fullFacts(), large(), loose()} {
		refuses(t, l, ask(60000, 7, "tower"), api.ErrNone)
	}
	// A room is no station, and a station no room.
	other := changed(0, func(f *api.Fact) { f.Setting.Stations[1].Name = "dock" })
	refuses(t, other, ask(60000, 7, "mill"), api.ErrNone)
	if r := tribunal.Answer(other, ask(60000, 7, "dock")); r.Errno != api.OK {
		t.Error("a station whose name is not that of a room", r)
	}
	for _, l := range [][]api.Fact{large(), loose()} {
		c, _ := office.Case(l, 60000, 7)
		refuses(t, l, ask(60000, 7, "mill"), round.Measure(c))
	}
}

// caseErrors checks the errors of cases, which come first for some questions.
func caseErrors(t *testing.T, ask func(known, dial int) api.Question) {
	t.Helper()
	l := fullFacts()
	refuses(t, l, ask(4, 7), api.ErrNone)
	refuses(t, l, ask(60000, 8), api.ErrNone)
	refuses(t, l, ask(59999, 7), api.ErrState)
	refuses(t, l[1:], ask(60000, 7), api.ErrState)
	refuses(t, with(l, lookFact(5, 1, 1, 7, 9)), ask(60000, 7), api.ErrClash)
	refuses(t, changed(1, func(f *api.Fact) { f.Dial.Start = 3 }), ask(60000, 7), api.ErrArg)
	refuses(t, changed(2, func(f *api.Fact) { f.Look.Marks[0].At.From = 20000 }), ask(60000, 7), api.ErrRange)
}

func TestP9_2When(t *testing.T) {
	l := fullFacts()
	answers(t, l, when(60000, 7, "gate"), api.Reply{Span: span(30999, 31001)})
	answers(t, l, when(60000, 7, "mill"), api.Reply{Span: span(31099, 31101)})
	answers(t, l, when(60000, 7, "loft"), api.Reply{Span: span(31099, 31201)})
	answers(t, l, when(70000, 7, "loft"), api.Reply{Span: span(31199, 31201)})
	stationErrors(t, when)
	refuses(t, with(l, lookFact(5, 1, 1, 7, 9, loftMarks()...)), when(60000, 7, "mill"), api.ErrNone)
	refuses(t, changed(1, func(f *api.Fact) { f.Dial.Start = 2 }), when(60000, 7, "gate"), api.ErrNone)
}

func TestP9_2Who(t *testing.T) {
	l := fullFacts()
	answers(t, l, who(60000, 7, "mill"), api.Reply{List: []int{9}})
	answers(t, l, who(60000, 7, "gate"), api.Reply{})
	// The man 3 can have had the key of the loft, or a copy of it, at the end of the span only.
	entries := []api.Entry{{ID: 1, Key: 3, Kind: api.CuPass, From: api.Board, To: 9, At: span(30000, 31000)}, {ID: 2, Key: 3, Kind: api.CuPass, From: 9, To: 3, At: span(31201, 32000)}}
	booked := func(change func(c *api.Custody)) []api.Fact {
		return changed(6, func(f *api.Fact) {
			f.Custody.Entries = slices.Clone(entries)
			change(&f.Custody)
		})
	}
	nothing := func(*api.Custody) {}
	answers(t, booked(nothing), who(60000, 7, "loft"), api.Reply{List: []int{3, 9}})
	answers(t, booked(func(c *api.Custody) { c.Entries[1].At.Lo++ }), who(60000, 7, "loft"), api.Reply{List: []int{9}})
	answers(t, booked(func(c *api.Custody) { c.People[1].Duty[0].Lo = 31202 }), who(60000, 7, "loft"), api.Reply{List: []int{3}})
	answers(t, booked(func(c *api.Custody) { c.Gaps = 1 }), who(60000, 7, "gate"), api.Reply{List: []int{3, 9}})
	stationErrors(t, who)
	late := custodyFact(4, 3, 65000, api.Custody{})
	refuses(t, l[:6], who(60000, 7, "mill"), api.ErrNone)                                                                    // no book
	refuses(t, with(l[:6], late), who(60000, 7, "mill"), api.ErrNone)                                                        // none yet
	refuses(t, with(l[:6], late), who(65000, 7, "mill"), api.ErrNone)                                                        // no such key
	answers(t, with(l, late), who(60000, 7, "mill"), api.Reply{List: []int{9}})                                              // the book as it was known then
	refuses(t, booked(func(c *api.Custody) { c.Entries[1].At = span(0, 29999) }), who(60000, 7, "loft"), api.ErrClash)       // no history
	answers(t, booked(func(c *api.Custody) { c.Entries[1].At = span(0, 29999) }), who(60000, 7, "mill"), api.Reply{})        // but of this key
	refuses(t, with(l[:6], lookFact(5, 1, 1, 7, 9, loftMarks()...), late), who(65000, 7, "mill"), api.ErrNone)               // missed
	refuses(t, large()[:6], who(60000, 7, "mill"), api.ErrLimit)                                                             // the case comes ahead of the book
	refuses(t, changed(6, func(f *api.Fact) { f.Custody.Entries[1].From = api.Board }), who(60000, 7, "tower"), api.ErrNone) // the station, too
}

func TestP9_2Placed(t *testing.T) {
	l := fullFacts()
	for _, x := range []struct {
		place  string
		lo, hi int
		yes    bool
	}{
		{"gate", 0, 29999, false}, {"gate", 30000, 30000, true}, {"mill", 30059, 30059, false}, {"mill", 0, 30060, true}, {"loft", 31088, 31088, false}, {"loft", 31090, 31200, true},
		{"gate", 31001, 31001, true}, {"mill", 31172, 40000, false}, {"mill", 31000, 40000, true}, {"loft", api.MaxTime, api.MaxTime, true}, {"gate", 31202, api.MaxTime, false},
	} {
		answers(t, l, placed(60000, 7, x.place, x.lo, x.hi), api.Reply{Yes: x.yes})
	}
	caseErrors(t, func(known, dial int) api.Question { return placed(known, dial, "tower", 5, 6) })
	caseErrors(t, func(known, dial int) api.Question { return placed(known, dial, "mill", 5, 6) })
	for _, l := range [][]api.Fact{l, large(), loose()} {
		refuses(t, l, placed(60000, 7, "tower", 5, 6), api.ErrNone)
	}
	refuses(t, large(), placed(60000, 7, "mill", 5, 6), api.ErrLimit)
	refuses(t, loose(), placed(60000, 7, "mill", 5, 6), api.ErrRange)
	// A room without a station is a place, a station that is not named as a room is none.
	other := changed(0, func(f *api.Fact) { f.Setting.Stations[1].Name = "dock" })
	answers(t, other, placed(60000, 7, "mill", 31100, 31100), api.Reply{Yes: true})
	refuses(t, other, placed(60000, 7, "dock", 31100, 31100), api.ErrNone)
}

// many returns n dials of different rounds, known at the time 1; there are not more than 240.
func many(n int) []api.Fact {
	var l []api.Fact
	for k := range n {
		d := exampleDial()
		d.No, d.Night, d.Round = k+1, k/api.MaxRounds, k%api.MaxRounds+1
		l = append(l, dialFact(k/api.MaxNo+1, k%api.MaxNo+1, 1, d))
	}
	return l
}

// policies returns n policies since different nights, known at the time 2.
func policies(n int) []api.Fact {
	var l []api.Fact
	for k := range n {
		l = append(l, policyFact(8, k+1, 2, api.Policy{Since: k, Base: k + 1}))
	}
	return l
}

func TestP9_2Balance(t *testing.T) {
	l := fullFacts()
	for _, x := range []struct{ known, account, lo, hi, want int }{
		{0, api.AcHouse, 0, 9, 0}, {1, api.AcHouse, 0, 9, -4000}, {1, api.AcInsurer, 0, 9, 4000}, {60000, api.AcHouse, 3, 3, -530}, {70000, api.AcHouse, 3, 3, -470}, {70000, api.AcInsurer, 3, 3, 460},
		{70000, 9, 3, 3, 10}, {70000, 9, 4, 9, 0}, {70000, 8, 3, 3, 0}, {80000, 9, 3, 3, 0}, {80000, api.AcHouse, 2, 3, -1030}, {80000, api.AcHouse, 0, 399, -398*500 - 30}, {80000, api.AcHouse, 0, 1, 0},
	} {
		answers(t, l, balance(x.known, x.account, x.lo, x.hi), api.Reply{Pence: x.want})
	}
	refuses(t, policies(api.MaxPolicies+1), balance(2, api.AcHouse, 0, 9), api.ErrLimit)
	answers(t, policies(api.MaxPolicies+1), balance(1, api.AcHouse, 0, 9), api.Reply{})
	refuses(t, many(api.MaxSeason+1), balance(2, api.AcHouse, 0, 9), api.ErrLimit)
	answers(t, many(api.MaxSeason), balance(2, api.AcHouse, 0, 9), api.Reply{})
}

func TestP9_2Amend(t *testing.T) {
	l := fullFacts()
	post := func(no, from, to, amount int) api.Posting {
		return api.Posting{Night: 3, No: no, From: from, To: to, Amount: amount}
	}
	earned := []api.Posting{post(1, api.AcInsurer, api.AcHouse, 30), post(1, api.AcInsurer, api.AcHouse, 40), post(1, api.AcHouse, 9, 10)}
	lost := []api.Posting{post(1, api.AcHouse, api.AcInsurer, 40), post(1, 9, api.AcHouse, 10), post(1, api.AcHouse, api.AcInsurer, 30)}
	answers(t, l, amend(70000, 60000, 0, 9), api.Reply{Postings: earned})
	answers(t, l, amend(70000, 60000, 4, 9), api.Reply{})
	answers(t, l, amend(60000, 70000, 0, 9), api.Reply{Postings: lost}) // backwards, too
	answers(t, l, amend(80000, 79999, 3, 3), api.Reply{Postings: lost})
	answers(t, l, amend(80000, 60000, 3, 3), api.Reply{})
	answers(t, l, amend(1, 0, 3, 3), api.Reply{Postings: []api.Posting{post(0, api.AcHouse, api.AcInsurer, 500)}})
	for _, l := range [][]api.Fact{policies(api.MaxPolicies + 1), many(api.MaxSeason + 1)} {
		refuses(t, l, amend(2, 0, 0, 9), api.ErrLimit)
		refuses(t, l, amend(0, 2, 0, 9), api.ErrLimit)
		answers(t, l, amend(0, 0, 0, 9), api.Reply{})
	}
}

func TestP9_2Rests(t *testing.T) {
	l := fullFacts()
	for _, n := range []api.Name{name(1, 1), name(1, 2), name(2, 1), name(3, 1)} {
		answers(t, l, rests(70000, n.Office, n.No), api.Reply{List: []int{7}})
	}
	answers(t, l, rests(80000, 2, 2), api.Reply{List: []int{7}})
	answers(t, l, rests(80000, 3, 1), api.Reply{})
	answers(t, l, rests(70000, 4, 1), api.Reply{})
	refuses(t, l, rests(79999, 2, 2), api.ErrNone)
	refuses(t, l, rests(70000, 8, 60), api.ErrNone)
}

// TestP9_2Errors checks that the errors of the question come first, then those of the list, and then the others.
func TestP9_2Errors(t *testing.T) {
	invalid := policyFact(8, 60, api.MaxTime, api.Policy{Bonus: -1})
	clash := policyFact(4, 1, api.MaxTime, examplePolicy())
	for _, x := range []struct {
		l    []api.Fact
		want api.Errno
	}{
		{slices.Repeat(fullFacts()[:1], api.MaxFacts+1), api.ErrLimit}, {with(fullFacts(), invalid), api.ErrArg}, {with(fullFacts(), clash), api.ErrClash}, {with(fullFacts(), clash, invalid), api.ErrClash},
		{slices.Repeat(facts(invalid), api.MaxFacts+1), api.ErrLimit}, {facts(invalid), api.ErrArg},
	} {
		for _, q := range validQuestions() {
			refuses(t, x.l, q, x.want)
			for what, change := range map[string]func(q *api.Question){"Known": func(q *api.Question) { q.Known = -1 }, "Kind": func(q *api.Question) { q.Kind = 0 }, "Account": func(q *api.Question) { q.Account = -3 }} {
				y := q
				change(&y)
				if definedQuestion(y) {
					t.Error("a valid question", what, y)
				}
				refuses(t, x.l, y, api.ErrArg)
			}
		}
	}
	for _, q := range []api.Question{verdict(4, 7), missed(4, 7, "mill"), when(4, 7, "mill"), who(4, 7, "mill"), placed(4, 7, "mill", 0, 1), rests(4, 1, 1)} {
		refuses(t, nil, q, api.ErrNone)
		refuses(t, fullFacts(), q, api.ErrNone)
	}
	answers(t, nil, balance(4, 7, 0, 1), api.Reply{})
	answers(t, nil, amend(4, 7, 0, 1), api.Reply{})
}

// TestP9_2Chance compares answers with the chapter's sentences.
func TestP9_2Chance(t *testing.T) {
	tries(92, 150, func(c *chance, l []api.Fact, q api.Question) {
		if c.n(8) == 0 {
			q = c.wild()
		}
		if r := tribunal.Answer(l, q); !isAnswer(l, q, r) {
			t.Error("an answer", q, short(r), defined(l, q))
		}
	})
}

// wide returns facts of which a case follows that is as large as may be: of its 12 marks, five can be of the key of either station. The watchman cannot have gone from one to the other so fast, but refutations show it slowly.
func wide() []api.Fact {
	s, d := exampleSetting(), exampleDial()
	s.House = api.House{Rooms: []api.Room{{Name: "a"}, {Name: "b"}}, Ways: []api.Way{{A: 0, B: 1, Secs: 102, Back: 102, Door: -1}}}
	s.Ink.Faint, s.Keys = 1, s.Keys[:2]
	s.Stations = []api.Station{{Name: "a", Key: 1, Room: 0}, {Name: "b", Key: 2, Room: 1}}
	d.Session.In, d.Session.Out, d.Session.Rate = span(30000, 31100), span(39000, 44000), span(990000, 1010000)
	d.Order = sourced("times 1 to 6 (a or b) then times 1 to 6 (a or b)")
	var marks []api.Mark
	for k := range api.MaxStrikes {
		m := api.Mark{At: arc(1000+100*k, 0), Seen: 7, Blank: 4088}
		if k%2 == 1 {
			m.Seen, m.Blank = 56, 4095-56
		}
		if k >= 7 {
			m.Seen, m.Blank = 0, 9 // one pin of either key is missing, but not of both
		}
		marks = append(marks, m)
	}
	return facts(settingFact(1, 1, 1, s), dialFact(1, 2, 1, d), lookFact(1, 3, 1, 7, 1, marks...))
}

// TestP9_2Wide asks about a case that is as large as may be.
func TestP9_2Wide(t *testing.T) {
	l := wide()
	for _, q := range []api.Question{verdict(9, 7), missed(9, 7, "a"), missed(9, 7, "b")} {
		r := tribunal.Answer(l, q)
		if len(r.Proofs) != api.MaxReads || !isAnswer(l, q, r) || tribunal.Accept(l, q, r) != api.OK {
			t.Error("the answer", q, r.Errno, r.Judged, len(r.Proofs))
		}
		r.Proofs[7] = r.Proofs[7][:len(r.Proofs[7])/2]
		accepts(t, l, q, r, false)
	}
	refuses(t, l, when(9, 7, "b"), api.ErrNone)
	// If the way is shorter, there are readings.
	l[0].Setting.House.Ways[0].Secs, l[0].Setting.House.Ways[0].Back = 90, 90
	r := tribunal.Answer(l, missed(9, 7, "b"))
	if r.Yes || len(r.Readings) != 1 || !isAnswer(l, missed(9, 7, "b"), r) {
		t.Error("the answer", r)
	}
}
