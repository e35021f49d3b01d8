package tribunal_test

import (
	"slices"
	"testing"

	"patrol/api"
	"patrol/office"
	"patrol/tribunal"
)

// definedUntil returns the facts that are known at a time.
func definedUntil(l []api.Fact, known int) []api.Fact {
	return slices.DeleteFunc(slices.Clone(l), func(f api.Fact) bool { return f.Known > known })
}

// definedMerge returns the facts of two lists, by their names.
func definedMerge(a, b []api.Fact) []api.Fact {
	var l []api.Fact
	for office := 1; office <= api.MaxOffices; office++ {
		for no := 1; no <= api.MaxNo; no++ {
			for _, f := range slices.Concat(a, b) {
				if nameOf(f) == name(office, no) {
					l = append(l, f)
					break
				}
			}
		}
	}
	return l
}

// richFacts are one fact of each kind, which have something in each list, and no zero where there need not be one.
func richFacts() []api.Fact {
	s := exampleSetting()
	s.Since, s.Ink = 12, api.Ink{Faint: 1, Stray: 2, Slip: 30}
	s.House.Rooms[0].Floor = -2
	s.House.Doors = append(s.House.Doors, api.Door{}, api.Door{Shut: []api.Span{span(5, 6), span(8, 99)}})
	s.Keys = append(s.Keys, api.Key{ID: api.MaxID, Track: 3, Pattern: 4095})
	d := exampleDial()
	d.Crew, d.Start = []int{3, 9, api.MaxID}, 2
	d.Session.Stops = []api.Stop{{At: 50, Secs: span(1, 2)}, {At: 60, Secs: span(3, 30)}}
	d.Order = sourced("gate then after 60 to 90 (each(mill, loft) or times 1 to 2 mill) within 5000")
	b := exampleBook()
	b.Gaps = 2
	b.Entries = append(b.Entries, api.Entry{ID: 4, Key: 1, Kind: api.CuLose, From: 3, At: span(2, 3)})
	return facts(
		settingFact(8, 60, 0, s), dialFact(1, 2, 7, d), lookFact(2, 1, 60000, 7, 4, exampleMarks()...),
		policyFact(3, 9, api.MaxTime, examplePolicy()), custodyFact(4, 4, 70000, b), withdrawal(5, 2, 80000, name(5, 3)),
	)
}

func TestP9_4Until(t *testing.T) {
	l := exampleFacts()
	for known, n := range map[int]int{0: 0, 4: 0, 5: 2, 59999: 2, 60000: 3, 70000: 4, 79999: 4, 80000: 5, api.MaxTime: 5} {
		got, e := tribunal.Until(l, known)
		same(t, "Until", got, e, l[:n])
	}
	// In the order of the list, as often as they stand there.
	mixed := facts(l[4], l[2], l[0], l[2], l[3], l[0])
	got, e := tribunal.Until(mixed, 60000)
	same(t, "Until in another order", got, e, facts(l[2], l[0], l[2], l[0]))
	for k := range 3 {
		got, e := tribunal.Until(richFacts(), []int{70000, 80000, api.MaxTime}[k])
		same(t, "Until", got, e, definedUntil(richFacts(), []int{70000, 80000, api.MaxTime}[k]))
	}
	got, e = tribunal.Until(nil, 5)
	same(t, "Until of no facts", got, e, nil)
	tries(94, 20, func(c *chance, l []api.Fact, q api.Question) {
		l = c.repeated(l)
		got, e := tribunal.Until(l, q.Known)
		same(t, "Until", got, e, definedUntil(l, q.Known))
		// What was known then is all that the answer rests on.
		if q.Before <= q.Known && !isEqual(tribunal.Answer(got, q), tribunal.Answer(l, q)) {
			t.Error("another answer by what was known then", q)
		}
	})
}

func TestP9_4UntilErrors(t *testing.T) {
	l := exampleFacts()
	invalid, clash := policyFact(8, 60, api.MaxTime, api.Policy{Bonus: -1}), settingFact(1, 1, api.MaxTime, exampleSetting())
	for _, known := range []int{minInt, -1, 5, api.MaxTime, api.MaxTime + 1, maxInt} {
		if known < 0 || known > api.MaxTime {
			got, e := tribunal.Until(l, known)
			none(t, "no time", got, e, api.ErrArg)
			got, e = tribunal.Until(nil, known)
			none(t, "no time, and no facts", got, e, api.ErrArg)
		}
		got, e := tribunal.Until(slices.Repeat(l[:1], api.MaxFacts+1), known)
		none(t, "too many facts", got, e, api.ErrLimit)
		got, e = tribunal.Until(with(l, invalid), known)
		none(t, "a fact that is not valid, and is not known yet", got, e, api.ErrArg)
		got, e = tribunal.Until(with(l, clash, invalid), known)
		none(t, "two facts with one name", got, e, api.ErrClash)
	}
	got, e := tribunal.Until(slices.Repeat(l[:1], api.MaxFacts), 5)
	same(t, "as many facts as there may be", got, e, slices.Repeat(l[:1], api.MaxFacts))
}

func TestP9_4Merge(t *testing.T) {
	l := exampleFacts()
	want := facts(l[0], l[1], l[2], l[4], l[3])
	for _, x := range [][2][]api.Fact{{l, nil}, {nil, l}, {l, l}, {l[:3], l[2:]}, {l[3:], l[:3]}, {facts(l[4], l[1]), facts(l[0], l[1], l[3], l[2], l[3])}} {
		got, e := tribunal.Merge(x[0], x[1])
		same(t, "Merge", got, e, want)
	}
	got, e := tribunal.Merge(richFacts(), facts(l[4]))
	same(t, "Merge", got, e, sorted(with(richFacts(), l[4])))
	got, e = tribunal.Merge(nil, []api.Fact{})
	same(t, "Merge of no facts", got, e, nil)
	c := chance(944)
	for range 60 {
		l := c.facts(c.from(1, 30))
		a, b := c.repeated(l)[:c.n(len(l))], c.repeated(l)[:c.n(len(l))]
		got, e := tribunal.Merge(a, b)
		same(t, "Merge", got, e, definedMerge(a, b))
		other, e := tribunal.Merge(b, a)
		same(t, "Merge the other way round", other, e, got)
	}
}

func TestP9_4MergeErrors(t *testing.T) {
	l := exampleFacts()
	long := slices.Repeat(l[:1], api.MaxFacts+1)
	invalid := with(l[:1], policyFact(8, 60, 5, api.Policy{Bonus: -1}))
	other := settingFact(1, 1, 6, exampleSetting())
	clash := with(l, other)
	for _, x := range []struct {
		a, b []api.Fact
		want api.Errno
	}{
		{long, nil, api.ErrLimit}, {nil, long, api.ErrLimit}, {invalid, nil, api.ErrArg}, {nil, invalid, api.ErrArg}, {clash, nil, api.ErrClash}, {nil, clash, api.ErrClash},
		{long, invalid, api.ErrLimit}, {invalid, long, api.ErrArg}, {clash, long, api.ErrClash}, {long, clash, api.ErrLimit}, {invalid, clash, api.ErrArg}, {clash, invalid, api.ErrClash},
		// Each list is right, but not both together.
		{l, facts(other), api.ErrClash}, {facts(other), l, api.ErrClash}, {long[:200], long[:101], api.ErrLimit}, {long[:1], long[:300], api.ErrLimit}, {with(long[:150], l...), with(slices.Repeat(facts(other), 150)), api.ErrLimit},
	} {
		got, e := tribunal.Merge(x.a, x.b)
		none(t, "Merge", got, e, x.want)
	}
	got, e := tribunal.Merge(long[:200], long[:100])
	same(t, "Merge of as many facts as there may be", got, e, l[:1])
	if e, _ := office.CheckFacts(got); e != api.OK {
		t.Error("CheckFacts", e)
	}
}
