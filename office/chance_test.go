package office_test

import (
	"slices"
	"testing"

	"patrol/api"
	"patrol/office"
)

// lastKnown is the last time at which facts that chance makes are known.
const lastKnown = 9

// setting returns one of a few settings, which are in force from about the second 30000 on.
func (c *chance) setting() api.Setting {
	s := exampleSetting()
	s.Since = c.pick(0, 0, 29999, 30000, 30001)
	switch c.n(8) {
	case 0:
		s.House.Doors[0].Shut = []api.Span{span(30000, 40000)}
	case 1:
		s.Stations = s.Stations[:2]
	case 2:
		s.Ink = api.Ink{Faint: 1, Stray: 1, Slip: c.n(20)}
	case 3:
		s.House.Rooms = append(s.House.Rooms, api.Room{Name: "yard"})
	case 4:
		s.Keys[1].Pattern = 448
	}
	return s
}

// dial returns one of a few dials.
func (c *chance) dial() api.Dial {
	d := exampleDial()
	d.No, d.Night, d.Round = c.from(1, 4), c.from(1, 3), c.from(1, 2)
	d.Crew = [][]int{{9}, {9}, {3, 9}, {4}}[c.n(4)]
	in := c.pick(29998, 29999, 30000, 30000, 30000, 30001)
	d.Session.In = span(in, in+c.n(3))
	d.Start = c.pick(0, 0, 0, 0, 0, 1, 2, 3)
	d.Order = sourced([]string{"gate then mill then loft", "gate then mill then loft", "gate then loft then loft", "gate then mill then mill", "each(gate, mill, loft)", "gate then (mill or loft) then loft"}[c.n(6)])
	return d
}

// marks returns what a reader can have seen; often it agrees with what the others saw.
func (c *chance) marks() []api.Mark {
	switch c.n(16) {
	case 0:
		return nil
	case 1:
		return exampleMarks()[:2]
	case 2:
		return []api.Mark{{At: arc(20000, 0)}, {At: arc(1100, 0)}, {At: arc(1200, 0)}} // not while the dial turned
	case 3:
		return make([]api.Mark, api.MaxStrikes) // not measured
	case 4:
		m := secondMarks()
		m[0].Track = 1
		return m
	case 5:
		return []api.Mark{{At: arc(1100, 43100)}, {At: arc(1000, 200)}, {At: arc(1100, 43150)}}
	case 6, 7, 8:
		return secondMarks()
	case 9, 10:
		return loftMarks()
	}
	return exampleMarks()
}

// policy returns one of a few policies.
func (c *chance) policy() api.Policy {
	return api.Policy{Since: c.n(4), Base: 100 * c.from(1, 5), Credit: 40, Charge: 50, Doubt: c.n(30), Cap: 60, Bonus: 250}
}

// custody returns one of a few custody books.
func (c *chance) custody() api.Custody {
	b := richCustody()
	b.Gaps = c.n(4)
	return b
}

// fact returns a valid fact with a name, whose target, if it has one, is one of some names.
func (c *chance) fact(n api.Name, targets []api.Name) api.Fact {
	known := c.n(lastKnown + 1)
	switch c.n(20) {
	case 0, 1, 2, 3:
		return settingFact(n.Office, n.No, known, c.setting())
	case 4, 5, 6, 7:
		return dialFact(n.Office, n.No, known, c.dial())
	case 8, 9:
		return policyFact(n.Office, n.No, known, c.policy())
	case 10:
		return custodyFact(n.Office, n.No, known, c.custody())
	case 11, 12, 13:
		if target := targets[c.n(len(targets))]; target != n {
			return withdrawal(n.Office, n.No, known, target)
		}
	}
	return lookFact(n.Office, n.No, known, c.from(1, 5), c.from(1, 4), c.marks()...)
}

// names returns n different names.
func (c *chance) names(n int) []api.Name {
	var all []api.Name
	for office := range api.MaxOffices {
		for no := range 5 {
			all = append(all, name(office+1, no+1))
		}
	}
	return shuffled(c, all)[:n]
}

// facts returns n valid facts with different names.
func (c *chance) facts(n int) []api.Fact {
	all := c.names(n)
	var l []api.Fact
	for _, n := range all {
		l = append(l, c.fact(n, all))
	}
	return l
}

// repeated returns a list in another order, with some of its facts several times.
func (c *chance) repeated(l []api.Fact) []api.Fact {
	more := slices.Clone(l)
	for range c.n(4) {
		more = append(more, l[c.n(len(l))])
	}
	return shuffled(c, more)
}

// tries calls a function with lists of valid facts.
func tries(seed chance, n int, f func(c *chance, l []api.Fact)) {
	for range n {
		f(&seed, seed.facts(seed.pick(1, 5, 12, 20, 30)))
	}
}

// TestChance checks that the facts that chance makes are valid, and that dials in all states follow from them.
func TestChance(t *testing.T) {
	var states, kinds [6]int
	errors := map[api.Errno]int{}
	tries(1, 300, func(c *chance, l []api.Fact) {
		if e, at := office.CheckFacts(c.repeated(l)); e != api.OK {
			t.Error("CheckFacts", e, at, l)
		}
		all, _ := office.View(l, lastKnown)
		for _, j := range all {
			states[j.State]++
			kinds[j.Kind]++
			errors[j.Errno]++
		}
	})
	if min(states[1], states[2], states[3], states[4], states[5]) < 20 || min(kinds[1], kinds[2], kinds[3], kinds[4]) < 10 || min(errors[api.ErrArg], errors[api.ErrLimit], errors[api.ErrRange]) < 5 {
		t.Error("not even facts:", states, kinds, errors)
	}
}
