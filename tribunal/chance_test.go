package tribunal_test

import (
	"slices"
	"testing"

	"patrol/api"
	"patrol/office"
	"patrol/tribunal"
)

// lastKnown is the last time at which facts that chance makes are known.
const lastKnown = 9

// setting returns one of a few settings, which are in force from about the second 30000 on.
func (c *chance) setting() api.Setting {
	s := exampleSetting()
	s.Since = c.pick(0, 0, 29999, 30000, 30001)
	switch c.n(8) {
	case 0:
		s.House.Doors[0].Shut = []api.Span{span(30000, 40000)}
	case 1:
		s.Stations = s.Stations[:2]
	case 2:
		s.Ink = api.Ink{Faint: 1, Stray: 1, Slip: c.n(20)}
	case 3:
		s.House.Rooms = append(s.House.Rooms, api.Room{Name: "yard"})
	case 4:
		s.Keys[1].Pattern = 448
	}
	return s
}

// dial returns one of a few dials.
func (c *chance) dial() api.Dial {
	d := exampleDial()
	d.No, d.Night, d.Round = c.from(1, 4), c.from(1, 3), c.from(1, 2)
	d.Crew = [][]int{{9}, {9}, {3, 9}, {4}}[c.n(4)]
	in := c.pick(29998, 29999, 30000, 30000, 30000, 30001)
	d.Session.In = span(in, in+c.n(3))
	d.Start = c.pick(0, 0, 0, 0, 0, 1, 2, 3)
	d.Order = sourced(one(c, "gate then mill then loft", "gate then mill then loft", "gate then loft then loft", "gate then mill then mill", "each(gate, mill, loft)", "gate then (mill or loft) then loft", "gate then after 0 to 100 mill then loft"))
	return d
}

// marks returns what a reader can have seen; often it agrees with what the others saw.
func (c *chance) marks() []api.Mark {
	switch c.n(16) {
	case 0:
		return nil
	case 1:
		return exampleMarks()[:2]
	case 2:
		return []api.Mark{{At: arc(20000, 0)}, {At: arc(1100, 0)}, {At: arc(1200, 0)}} // not while the dial turned
	case 3:
		return make([]api.Mark, api.MaxStrikes) // not measured
	case 4:
		m := secondMarks()
		m[0].Track = 1
		return m
	case 5:
		return []api.Mark{{At: arc(1100, 43100)}, {At: arc(1000, 200)}, {At: arc(1100, 43150)}}
	case 6, 7, 8:
		return secondMarks()
	case 9, 10:
		return loftMarks()
	}
	return exampleMarks()
}

// policy returns one of a few policies.
func (c *chance) policy() api.Policy {
	return api.Policy{Since: c.n(4), Base: 100 * c.from(1, 5), Credit: 40, Charge: 50, Doubt: c.n(30), Cap: 60, Bonus: 250}
}

// custody returns one of a few custody books, of keys that are passed on about the time of the marks.
func (c *chance) custody() api.Custody {
	b := exampleBook()
	b.Gaps = c.pick(0, 0, 1, 3)
	if c.n(4) == 0 {
		b.Keys = []int{2, 3}
	}
	if c.n(4) == 0 {
		b.Entries[1].From = 3
		b.Entries[1].To = 9
	}
	at := 30900 + c.n(300)
	b.Entries = append(b.Entries, api.Entry{ID: 5, Key: 3, Kind: api.CuPass, From: api.Board, To: c.pick(3, 9), At: span(at, at+c.n(200))})
	if c.n(2) == 0 {
		b.Entries = append(b.Entries, api.Entry{ID: 6, Key: 2, Kind: api.CuCopy, From: c.pick(3, 9), At: span(at, at+c.n(2000))})
	}
	return b
}

// fact returns a valid fact with a name, whose target, if it has one, is one of some names.
func (c *chance) fact(n api.Name, targets []api.Name) api.Fact {
	known := c.n(lastKnown + 1)
	switch c.n(20) {
	case 0, 1, 2, 3:
		return settingFact(n.Office, n.No, known, c.setting())
	case 4, 5, 6, 7:
		return dialFact(n.Office, n.No, known, c.dial())
	case 8, 9:
		return policyFact(n.Office, n.No, known, c.policy())
	case 10, 11:
		return custodyFact(n.Office, n.No, known, c.custody())
	case 12, 13:
		if target := targets[c.n(len(targets))]; target != n {
			return withdrawal(n.Office, n.No, known, target)
		}
	}
	return lookFact(n.Office, n.No, known, c.from(1, 5), c.from(1, 4), c.marks()...)
}

// names returns n different names.
func (c *chance) names(n int) []api.Name {
	var all []api.Name
	for office := range api.MaxOffices {
		for no := range 5 {
			all = append(all, name(office+1, no+1))
		}
	}
	return shuffled(c, all)[:n]
}

// facts returns n valid facts with different names.
func (c *chance) facts(n int) []api.Fact {
	all := c.names(n)
	var l []api.Fact
	for _, n := range all {
		l = append(l, c.fact(n, all))
	}
	return l
}

// base returns facts by which dials are judged, as long as nothing else is known of them.
func (c *chance) base() []api.Fact {
	var l []api.Fact
	if c.n(8) > 0 {
		s := c.setting()
		s.Since = 0
		l = append(l, settingFact(8, 10, 0, s))
	}
	for no := range c.n(5) {
		d := c.dial()
		d.No = no + 1
		d.Start = c.pick(0, 0, 0, 0, 2)
		l = append(l, dialFact(8, 20+no, 0, d), lookFact(8, 30+no, 0, no+1, 1, exampleMarks()...))
	}
	return l
}

// repeated returns a list in another order, with some of its facts several times.
func (c *chance) repeated(l []api.Fact) []api.Fact {
	more := slices.Clone(l)
	for range c.n(4) {
		more = append(more, l[c.n(len(l))])
	}
	return shuffled(c, more)
}

// question returns a valid question of a kind, of which many have an answer by facts that chance makes.
func (c *chance) question(kind int) api.Question {
	known, dial := c.pick(c.n(lastKnown+1), lastKnown), c.from(1, 4)
	place := one(c, "gate", "mill", "loft", "gate", "mill", "loft", "yard")
	night := c.n(4)
	switch kind {
	case api.QuVerdict:
		return verdict(known, dial)
	case api.QuMissed:
		return missed(known, dial, place)
	case api.QuWhen:
		return when(known, dial, place)
	case api.QuWho:
		return who(known, dial, place)
	case api.QuPlaced:
		lo := 30000 + c.n(1300)
		return placed(known, dial, place, lo, lo+c.pick(0, c.n(100), c.n(2000)))
	case api.QuBalance:
		return balance(known, c.pick(api.AcHouse, api.AcInsurer, 3, 4, 9), night, night+c.n(4))
	case api.QuAmend:
		return amend(known, c.n(lastKnown+1), night, night+c.n(4))
	}
	n := c.names(1)[0]
	return rests(known, n.Office, n.No)
}

// tries calls a function with lists of valid facts, and with a question of each kind.
func tries(seed chance, n int, f func(c *chance, l []api.Fact, q api.Question)) {
	for range n {
		l := shuffled(&seed, with(seed.facts(seed.pick(3, 6, 12, 20, 40)), seed.base()...))
		for kind := api.QuVerdict; kind <= api.QuRests; kind++ {
			f(&seed, l, seed.question(kind))
		}
	}
}

// TestChance checks that the facts and questions that chance makes are valid, and that the answers are of all sorts.
func TestChance(t *testing.T) {
	var states, kinds [6]int
	var right [9]int
	var errors [9][10]int
	yes, no, lists, postings := 0, 0, 0, 0
	tries(1, 600, func(c *chance, l []api.Fact, q api.Question) {
		if e, at := office.CheckFacts(c.repeated(l)); e != api.OK || tribunal.CheckQuestion(q) != api.OK {
			t.Error("facts, or a question", e, at, q)
		}
		r := tribunal.Answer(l, q)
		errors[q.Kind][r.Errno]++
		states[r.Judged.State]++
		kinds[r.Judged.Kind]++
		if r.Errno == api.OK {
			right[q.Kind]++
			lists += len(r.List)
			postings += len(r.Postings)
		}
		if q.Kind == api.QuMissed && r.Yes {
			yes++
		} else if q.Kind == api.QuMissed && len(r.Readings) > 0 {
			no++
		}
	})
	if slices.Min(states[1:]) < 10 || slices.Min(kinds[1:5]) < 10 || slices.Min(right[1:]) < 40 || min(yes, no, lists, postings) < 40 {
		t.Error("not even facts:", states, kinds, right, yes, no, lists, postings, errors)
	}
}
