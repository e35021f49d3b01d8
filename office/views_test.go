package office_test

import (
	"slices"
	"testing"

	"patrol/api"
	"patrol/office"
	"patrol/round"
)

// judged checks what Judge returns for the dial 7 of the examples: its state, the kind of its verdict, and its error.
func judged(t *testing.T, what string, l []api.Fact, known, state, kind int, e api.Errno) {
	t.Helper()
	got, f := office.Judge(l, known, 7)
	same(t, what, got, f, api.Judged{No: 7, Night: 3, Round: 1, State: state, Kind: kind, Errno: e})
}

// with returns a copy of a list with more facts behind it.
func with(l []api.Fact, more ...api.Fact) []api.Fact { return slices.Concat(l, more) }

func TestP8_2Edges(t *testing.T) {
	l := exampleFacts()
	for _, x := range []struct {
		known int
		want  []api.Name
	}{
		{0, nil}, {4, nil}, {5, names(name(1, 1), name(1, 2))}, {60000, names(name(1, 1), name(1, 2), name(2, 1))},
		{79999, names(name(1, 1), name(1, 2), name(2, 1), name(3, 1))},
		{80000, names(name(1, 1), name(1, 2), name(2, 1), name(2, 2))},
		{api.MaxTime, names(name(1, 1), name(1, 2), name(2, 1), name(2, 2))},
	} {
		got, e := office.Standing(l, x.known)
		same(t, "Standing", got, e, x.want)
		backwards := slices.Concat(l, l)
		slices.Reverse(backwards)
		got, e = office.Standing(backwards, x.known)
		same(t, "Standing of a list that is repeated and reversed", got, e, x.want)
	}
	// A withdrawal cannot be withdrawn, whether it comes before or behind the one that would do so.
	f := exampleFacts()[2]
	got, e := office.Standing(facts(f, withdrawal(1, 1, 70000, name(2, 1)), withdrawal(1, 2, 70001, name(1, 1)), withdrawal(1, 3, 1, name(1, 1))), 80000)
	same(t, "Standing with a withdrawal of a withdrawal", got, e, names(name(1, 1), name(1, 2), name(1, 3)))
	// What is withdrawn can become known later, or never.
	l = facts(withdrawal(1, 1, 10, name(2, 1)), withdrawal(1, 2, 10, name(8, 60)), f)
	for _, known := range []int{10, 59999, 60000, 60001} {
		got, e = office.Standing(l, known)
		same(t, "Standing of what was withdrawn before", got, e, names(name(1, 1), name(1, 2)))
	}
	// One withdrawal is enough.
	l = facts(f, withdrawal(1, 1, 90000, name(2, 1)), withdrawal(1, 2, 80000, name(2, 1)))
	got, e = office.Standing(l, 80000)
	same(t, "Standing of what is withdrawn twice", got, e, names(name(1, 2)))
	got, e = office.Standing(nil, 5)
	same(t, "Standing of nothing", got, e, nil)
}

func TestP8_4States(t *testing.T) {
	l := exampleFacts()[:3]
	setting, dial, look := l[0], l[1], l[2]
	const at = 60000
	judged(t, "a judged dial", l, at, api.DiJudged, api.VeDoubtful, api.OK)
	judged(t, "a dial without a setting", facts(dial, look), at, api.DiBare, 0, api.OK)
	judged(t, "a dial without anything", facts(dial), at, api.DiBare, 0, api.OK)
	judged(t, "a dial without a look", facts(setting, dial), at, api.DiUnread, 0, api.OK)
	judged(t, "looks at others", facts(setting, dial, lookFact(2, 1, 0, 8, 4), lookFact(2, 2, 0, 6, 4)), at, api.DiUnread, 0, api.OK)
	judged(t, "bare ahead of disputed", facts(dial, look, lookFact(3, 1, 0, 7, 5)), at, api.DiBare, 0, api.OK)
	wrong := dial
	wrong.Dial.Start = 3
	judged(t, "a room that is none", facts(setting, wrong, look), at, api.DiWrong, 0, api.ErrArg)
	judged(t, "unread ahead of wrong", facts(setting, wrong), at, api.DiUnread, 0, api.OK)
	judged(t, "disputed ahead of wrong", facts(setting, wrong, look, lookFact(3, 1, 0, 7, 5)), at, api.DiDisputed, 0, api.OK)
	vague := func(n int) api.Fact { return lookFact(2, 1, 0, 7, 4, slices.Repeat(exampleMarks()[1:2], n)...) }
	judged(t, "many sequences", facts(setting, dial, vague(3)), at, api.DiWrong, 0, api.ErrLimit)
	judged(t, "fewer sequences", facts(setting, dial, vague(2)), at, api.DiJudged, api.VeFailed, api.OK)
	long := lookFact(2, 1, 0, 7, 4, api.Mark{At: arc(1000, 3000), Seen: 7, Blank: 4088})
	judged(t, "a loose mark", facts(setting, dial, long), at, api.DiWrong, 0, api.ErrRange)
	away := lookFact(2, 1, 0, 7, 4, api.Mark{At: arc(20000, 0)})
	judged(t, "a mark that has no positions", facts(setting, dial, away), at, api.DiWrong, 0, api.ErrRange)
	judged(t, "no marks", facts(setting, dial, lookFact(2, 1, 0, 7, 4)), at, api.DiJudged, api.VeFailed, api.OK)
	loft := dial
	loft.Dial.Start = 2
	judged(t, "from the loft", facts(setting, loft, look), at, api.DiJudged, api.VeVoid, api.OK)
	for _, no := range []int{minInt, -1, 0, 6, 8, api.MaxID + 1} {
		got, e := office.Judge(l, at, no)
		none(t, "no dial", got, e, api.ErrNone)
	}
	all, e := office.View(nil, 0)
	same(t, "View of nothing", all, e, nil)
	second := dialFact(4, 1, 5, exampleDial())
	second.Dial.No, second.Dial.Night = 2, 19
	all, e = office.View(with(l, second), 5)
	same(t, "View", all, e, []api.Judged{{No: 2, Night: 19, Round: 1, State: api.DiUnread}, {No: 7, Night: 3, Round: 1, State: api.DiUnread}})
}

// TestP8_4Settings checks which setting is in force for a dial.
func TestP8_4Settings(t *testing.T) {
	dial, look := exampleFacts()[1], exampleFacts()[2]
	dial.Office, look.Office = 7, 7
	dial.Dial.Session.In = span(30000, 30002)
	dial.Dial.Order = sourced("gate then (mill or loft) then loft")
	// In the house that is shut there is no way to the loft.
	good := func(office, no, known, since int) api.Fact {
		s := exampleSetting()
		s.Since = since
		return settingFact(office, no, known, s)
	}
	shut := func(office, no, known, since int) api.Fact {
		f := good(office, no, known, since)
		f.Setting.House.Doors[0].Hours = nil
		return f
	}
	const at = 60000
	for k, x := range []struct {
		l           []api.Fact
		state, kind int
	}{
		{facts(good(1, 1, 0, 30000)), api.DiJudged, api.VeCertified},
		{facts(good(1, 1, 0, 30001)), api.DiBare, 0}, // Lo of In counts, not Hi
		{facts(good(1, 1, 0, 30001), shut(1, 2, 0, 0)), api.DiJudged, api.VeVoid},
		{facts(good(1, 1, 0, 29999), shut(1, 2, 0, 29998)), api.DiJudged, api.VeCertified},
		{facts(good(1, 1, 0, 29998), shut(1, 2, 0, 29999)), api.DiJudged, api.VeVoid},
		// The greater Since counts, whatever became known later.
		{facts(good(1, 1, 0, 29999), shut(1, 2, 50, 29998)), api.DiJudged, api.VeCertified},
		// Of the same Since, the later one counts: by Known, then by the office, then by the number.
		{facts(good(1, 1, 8, 5), shut(1, 2, 7, 5)), api.DiJudged, api.VeCertified},
		{facts(good(1, 1, 7, 5), shut(1, 2, 8, 5)), api.DiJudged, api.VeVoid},
		{facts(good(2, 1, 8, 5), shut(1, 9, 8, 5)), api.DiJudged, api.VeCertified},
		{facts(good(1, 9, 8, 5), shut(2, 1, 8, 5)), api.DiJudged, api.VeVoid},
		{facts(good(1, 9, 8, 5), shut(1, 8, 8, 5)), api.DiJudged, api.VeCertified},
		{facts(good(1, 8, 8, 5), shut(1, 9, 8, 5)), api.DiJudged, api.VeVoid},
		// One that is withdrawn, or not known yet, does not count.
		{facts(good(1, 8, 8, 5), shut(1, 9, 8, 5), withdrawal(3, 1, at, name(1, 9))), api.DiJudged, api.VeCertified},
		{facts(good(1, 8, 8, 5), shut(1, 9, 8, 5), withdrawal(3, 1, at+1, name(1, 9))), api.DiJudged, api.VeVoid},
		{facts(good(1, 8, 8, 5), shut(1, 9, at+1, 6)), api.DiJudged, api.VeCertified},
		{facts(good(1, 8, 8, 5), shut(1, 9, at, 6)), api.DiJudged, api.VeVoid},
	} {
		got, e := office.Judge(with(x.l, dial, look), at, 7)
		if got.State != x.state || got.Kind != x.kind || e != api.OK {
			t.Errorf("settings %d: %v %d", k, got, e)
		}
	}
}

// TestP8_4Later checks which dial, and which look of a reader, counts.
func TestP8_4Later(t *testing.T) {
	l := exampleFacts()
	setting, dial, look := l[0], l[1], l[2]
	setting.Office, look.Office = 6, 7
	again := func(office, no, known int) api.Fact {
		f := dialFact(office, no, known, exampleDial())
		f.Dial.Night, f.Dial.Order = 4, sourced("gate then (mill or loft) then loft")
		return f
	}
	for k, x := range []struct {
		f     api.Fact
		night int
	}{
		{again(1, 3, 5), 4}, {again(1, 1, 5), 3}, {again(2, 1, 5), 4}, {again(8, 60, 4), 3}, {again(1, 1, 6), 4}, {again(1, 9, 60001), 3},
	} {
		got, e := office.Judge(facts(setting, dial, look, x.f), 60000, 7)
		if want := []int{api.VeDoubtful, api.VeCertified}[x.night-3]; got.Night != x.night || got.Kind != want || e != api.OK {
			t.Errorf("dials %d: %v %d", k, got, e)
		}
	}
	l = l[:3]
	// The reader 4 looks again: only what he saw last counts.
	for k, x := range []struct {
		f    api.Fact
		want int
	}{
		{lookFact(2, 2, 60000, 7, 4, secondMarks()...), api.VeDoubtful},
		{lookFact(2, 2, 60000, 7, 4, sharpMarks()...), api.VeCertified},
		{lookFact(1, 3, 60000, 7, 4, sharpMarks()...), api.VeDoubtful},
		{lookFact(1, 3, 60001, 7, 4, sharpMarks()...), api.VeCertified},
		{lookFact(3, 1, 59999, 7, 4, sharpMarks()...), api.VeDoubtful},
		{lookFact(3, 1, 60000, 7, 4), api.VeFailed},
	} {
		got, e := office.Judge(with(l, x.f), 60001, 7)
		if k == 0 {
			// Three marks that are all vague have too many sequences.
			same(t, "a vague look", got, e, api.Judged{No: 7, Night: 3, Round: 1, State: api.DiWrong, Errno: api.ErrLimit})
			continue
		}
		if got.Kind != x.want || e != api.OK {
			t.Errorf("looks %d: %v %d", k, got, e)
		}
	}
}

// sharpMarks are what both readers of the examples saw together.
func sharpMarks() []api.Mark {
	m := exampleMarks()
	m[1].Seen = 8
	return m
}

// TestP8_4Marks checks what readers tell together.
func TestP8_4Marks(t *testing.T) {
	l := exampleFacts()[:2]
	const at = 60000
	one := func(reader int, marks ...api.Mark) api.Fact { return lookFact(4, reader, 5, 7, reader, marks...) }
	whole := api.Mark{At: arc(0, 43199)}
	for k, x := range []struct {
		looks []api.Fact
		want  []api.Mark // nil: it is disputed
	}{
		{facts(one(4, exampleMarks()...)), exampleMarks()},
		{facts(one(4, exampleMarks()...), one(2, secondMarks()...)), sharpMarks()},
		{facts(one(4, exampleMarks()...), one(2, loftMarks()...)), []api.Mark{exampleMarks()[0], {At: arc(1100, 0), Seen: 64, Blank: 63}, exampleMarks()[2]}},
		{facts(one(4, exampleMarks()...), one(2, secondMarks()...), one(3, loftMarks()...)), nil},
		{facts(one(1, loftMarks()...), one(2, exampleMarks()...), one(3, secondMarks()...)), nil},
		{facts(one(1, exampleMarks()...), one(2, exampleMarks()[:2]...)), nil},
		{facts(one(1, exampleMarks()[:2]...), one(2, exampleMarks()...)), nil},
		{facts(one(1, exampleMarks()...), one(2)), nil},
		{facts(one(1), one(2, exampleMarks()...)), nil},
		{facts(one(1), one(2)), []api.Mark{}},
		// Different tracks, no common angle, common angles that are not those of one arc.
		{facts(one(1, whole), one(2, api.Mark{At: arc(0, 43199), Track: 1})), nil},
		{facts(one(1, api.Mark{At: arc(1000, 5)}), one(2, api.Mark{At: arc(1006, 5)})), nil},
		{facts(one(1, api.Mark{At: arc(1000, 5)}), one(2, api.Mark{At: arc(1005, 5)})), []api.Mark{{At: arc(1005, 0)}}},
		{facts(one(1, api.Mark{At: arc(1000, 400)}), one(2, api.Mark{At: arc(1300, 43199-250)})), nil},
		// The third reader has another number of marks than the first one, though the first two agree.
		{facts(one(1, whole), one(2, whole), one(3, whole, whole)), nil},
		// The looks are taken in the order of the readers: in another one they could all be sharpened.
		{facts(one(1, api.Mark{At: arc(1000, 400)}), one(2, api.Mark{At: arc(1300, 43199-250)}), one(3, api.Mark{At: arc(1350, 10)})), nil},
		{facts(one(3, api.Mark{At: arc(1000, 400)}), one(2, api.Mark{At: arc(1300, 43199-250)}), one(1, api.Mark{At: arc(1350, 10)})), []api.Mark{{At: arc(1350, 10)}}},
	} {
		for range 2 {
			slices.Reverse(x.looks)
			c, e := office.Case(with(l, x.looks...), at, 7)
			j, f := office.Judge(with(x.looks, l...), at, 7)
			if x.want == nil {
				none(t, "a disputed dial", c, e, api.ErrClash)
				same(t, "a disputed dial", j, f, api.Judged{No: 7, Night: 3, Round: 1, State: api.DiDisputed})
				continue
			}
			if j.State == api.DiDisputed || f != api.OK {
				t.Error("Judge", k, j, f)
			}
			same(t, "the marks", c.Marks, e, x.want)
		}
	}
}

// TestP8_3Fields checks each field of a case, and its errors.
func TestP8_3Fields(t *testing.T) {
	d, s := richDial(), richSetting()
	l := facts(settingFact(1, 1, 5, s), dialFact(1, 2, 5, d), lookFact(1, 3, 6, 7, 1, exampleMarks()...))
	got, e := office.Case(l, 6, 7)
	want := api.Case{House: s.House, Session: d.Session, Ink: s.Ink, Keys: s.Keys, Stations: s.Stations, Marks: exampleMarks(), Start: 2, Since: 30000, Order: d.Order}
	same(t, "Case", got, e, want)
	if e := round.Check(got); e != api.OK {
		t.Error("round.Check", e)
	}
	for _, no := range []int{minInt, 0, 6, maxInt} {
		got, e = office.Case(l, 6, no)
		none(t, "no dial", got, e, api.ErrNone)
	}
	got, e = office.Case(l, 4, 7)
	none(t, "no dial yet", got, e, api.ErrNone)
	got, e = office.Case(l, 5, 7)
	none(t, "an unread dial", got, e, api.ErrState)
	got, e = office.Case(l[1:], 6, 7)
	none(t, "a bare dial", got, e, api.ErrState)
	got, e = office.Case(with(l[1:], lookFact(1, 4, 6, 7, 2)), 6, 7)
	none(t, "a bare dial with readers who disagree", got, e, api.ErrState)
	got, e = office.Case(with(l, lookFact(1, 4, 6, 7, 2)), 6, 7)
	none(t, "a disputed dial", got, e, api.ErrClash)
	l[1].Dial.Start = 3
	got, e = office.Case(l, 6, 7)
	none(t, "a room that is none", got, e, api.ErrArg)
	got, e = office.Case(with(l, lookFact(1, 4, 6, 7, 2)), 6, 7)
	none(t, "a disputed dial and a room that is none", got, e, api.ErrClash)
	// A case that is valid, but not measured, is a case.
	vague := slices.Repeat(exampleMarks()[1:2], 3)
	l = with(exampleFacts()[:2], lookFact(1, 3, 6, 7, 1, vague...))
	got, e = office.Case(l, 6, 7)
	same(t, "the marks of a case that is too large", got.Marks, e, vague)
	l = with(exampleFacts()[:2], lookFact(1, 3, 6, 7, 1, api.Mark{At: arc(20000, 0)}))
	got, e = office.Case(l, 6, 7)
	none(t, "a mark that has no positions", got, e, api.ErrRange)
}

func TestP8_9Edges(t *testing.T) {
	l := exampleFacts()
	for k, x := range []struct {
		known int
		n     api.Name
		want  []int
		e     api.Errno
	}{
		{4, name(1, 1), nil, api.ErrNone}, {5, name(1, 1), []int{7}, api.OK}, {5, name(1, 2), []int{7}, api.OK}, {5, name(2, 1), nil, api.ErrNone},
		{60000, name(2, 1), []int{7}, api.OK}, {69999, name(3, 1), nil, api.ErrNone}, {70000, name(3, 1), []int{7}, api.OK}, {70000, name(2, 1), []int{7}, api.OK}, {70000, name(1, 1), []int{7}, api.OK},
		{79999, name(2, 2), nil, api.ErrNone}, {80000, name(2, 2), []int{7}, api.OK}, {80000, name(3, 1), nil, api.OK}, {80000, name(1, 2), []int{7}, api.OK},
		{80000, api.Name{}, nil, api.ErrNone}, {80000, name(9, 61), nil, api.ErrNone}, {80000, name(minInt, maxInt), nil, api.ErrNone},
	} {
		for _, l := range [][]api.Fact{l, slices.Repeat(l, 3)} {
			got, e := office.Rests(l, x.known, x.n)
			if !isEqual(got, x.want) || e != x.e {
				t.Error("Rests", k, got, e)
			}
		}
	}
	// A look that changes nothing: the verdict rests on neither of two that say the same, but on both together.
	l = with(l[:3], lookFact(4, 1, 60000, 7, 5, exampleMarks()...))
	for _, n := range names(name(2, 1), name(4, 1)) {
		got, e := office.Rests(l, 60000, n)
		same(t, "Rests of one of two looks", got, e, nil)
	}
	// A withdrawal without which there is a further dial, and one that has no effect.
	second := dialFact(4, 2, 1, exampleDial())
	second.Dial.No = 3
	l = with(l, second, withdrawal(5, 1, 2, name(4, 2)), withdrawal(5, 2, 2, name(4, 3)))
	got, e := office.Rests(l, 60000, name(5, 1))
	same(t, "Rests of a withdrawal of a dial", got, e, []int{3})
	got, e = office.Rests(l, 60000, name(5, 2))
	same(t, "Rests of a withdrawal of nothing", got, e, nil)
	got, e = office.Rests(l, 60000, name(4, 2))
	same(t, "Rests of what is withdrawn", got, e, nil)
	// The setting is that of both dials; in increasing order of their numbers.
	l = with(exampleFacts()[:3], second, policyFact(6, 1, 1, richPolicy()), custodyFact(6, 2, 1, richCustody()))
	got, e = office.Rests(l, 60000, name(1, 1))
	same(t, "Rests of a setting", got, e, []int{3, 7})
	for _, n := range names(name(6, 1), name(6, 2)) {
		got, e = office.Rests(l, 60000, n)
		same(t, "Rests of a policy, and of a custody book", got, e, nil)
	}
	// Another Night is another result.
	again := dialFact(4, 4, 7, exampleDial())
	again.Dial.Round = 2
	got, e = office.Rests(with(exampleFacts(), again), 60000, name(4, 4))
	same(t, "Rests of a dial that replaces another one", got, e, []int{7})
}
