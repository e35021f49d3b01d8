package order

import (
	"cmp"
	"slices"

	"patrol/api"
)

// maxDemanded is the greatest number of names that an order accepts, and for which it has demands.
const maxDemanded = 12

// compareEnds compares links by what they are between.
func compareEnds(a, b api.Link) int {
	return cmp.Or(cmp.Compare(a.From, b.From), cmp.Compare(a.To, b.To))
}

// compareLinks compares links, by what they are between first.
func compareLinks(a, b api.Link) int {
	return cmp.Or(compareEnds(a, b), cmp.Compare(a.Most, b.Most))
}

// compareDemands compares demands link by link.
func compareDemands(a, b api.Demand) int {
	return slices.CompareFunc(a.Links, b.Links, compareLinks)
}

// join returns the demand that asks for what two lists of links do.
func join(a, b []api.Link) api.Demand {
	l := slices.Concat(a, b)
	slices.SortFunc(l, compareLinks)
	// The first one of the links between the same visits has the least Most.
	return api.Demand{Links: slices.CompactFunc(l, func(x, y api.Link) bool { return compareEnds(x, y) == 0 })}
}

// demander finds the demands of all parts of a list, and remembers them.
type demander struct {
	matcher
	known map[part][]api.Demand
}

// demands returns the demands of a part, sorted; it panics if there are too many.
func (m demander) demands(p part) []api.Demand {
	l, known := m.known[p]
	if known {
		return l
	}
	for c := range m.choices(p) {
		for _, d := range m.of(c) {
			k, is := slices.BinarySearchFunc(l, d, compareDemands)
			if !is {
				l = slices.Insert(l, k, d)
			}
			if len(l) > api.MaxDemands {
				panic(halt{e: api.ErrLimit})
			}
		}
	}
	m.known[p] = l
	return l
}

// of returns the demands of one way to match a part.
func (m demander) of(c choice) []api.Demand {
	l := []api.Demand{{Links: c.links}}
	for _, x := range c.parts {
		var joined []api.Demand
		for _, a := range m.demands(x) {
			for _, b := range l {
				joined = append(joined, join(a.Links, b.Links))
			}
		}
		l = joined
	}
	return l
}

// every finds the demands of every part, for each node, and for each number of repetitions; it panics if one of them has too many.
func (m demander) every() {
	for node, o := range m.nodes {
		for to := range len(m.names) + 1 {
			for from := range to {
				for times := range o.Hi + 1 {
					m.demands(part{node, times, from, to})
				}
			}
		}
	}
}

// Demands returns the lists of constraints on times, one of which has to hold, for a list of names.
func Demands(o api.Order, names []string) (l []api.Demand, e api.Errno) {
	accepted, e := Accepts(o, names)
	if e != api.OK {
		return nil, e
	}
	if len(names) > maxDemanded {
		if accepted {
			return nil, api.ErrLimit
		}
		return nil, api.OK
	}
	defer func() {
		if x, is := recover().(halt); is {
			l, e = nil, x.e
		}
	}()
	m := demander{newMatcher(o, names), map[part][]api.Demand{}}
	m.every()
	return m.demands(m.whole()), api.OK
}

// isLink reports whether a link is one between some visits.
func isLink(x api.Link, visits int) bool {
	index := api.Span{Hi: visits - 1}
	return has(index, x.From) && has(index, x.To) && has(api.Span{Lo: -api.MaxTime, Hi: api.MaxTime}, x.Most)
}

// Fulfils reports whether times keep a demand.
func Fulfils(d api.Demand, times []int) (bool, api.Errno) {
	if len(times) > api.MaxVisits || len(d.Links) > api.MaxNodes*api.MaxVisits {
		return false, api.ErrArg
	}
	for _, t := range times {
		if !isTime(t) {
			return false, api.ErrArg
		}
	}
	for _, x := range d.Links {
		if !isLink(x, len(times)) {
			return false, api.ErrArg
		}
	}
	return keeps(times, d.Links), api.OK
}
