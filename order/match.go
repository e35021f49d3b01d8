package order

import (
	"iter"
	"slices"

	"patrol/api"
)

// part is a part of a list, and what has to match it: a node, or, if times is not 0, so many repetitions of its kid.
type part struct{ node, times, from, to int }

// choice is one of the ways in which a part can be matched: the parts that have to be matched for it, and the links that the times have to keep.
type choice struct {
	parts []part
	links []api.Link
}

// matcher knows the nodes of an order, in preorder, and the names of a list.
type matcher struct {
	nodes  []api.Order
	behind []int // for each node the index of the first one that is neither the node nor below it
	names  []string
}

// newMatcher returns the matcher of an order and a list of names.
func newMatcher(o api.Order, names []string) matcher {
	m := matcher{names: names}
	m.add(o)
	return m
}

// add adds a node and those below it.
func (m *matcher) add(o api.Order) {
	node := len(m.nodes)
	m.nodes, m.behind = append(m.nodes, o), append(m.behind, 0)
	for _, kid := range o.Kids {
		m.add(kid)
	}
	m.behind[node] = len(m.nodes)
}

// whole returns the part that is the whole list, for the root.
func (m matcher) whole() part { return part{to: len(m.names)} }

// first returns the first kid of a node, second the second one.
func (m matcher) first(node int) int  { return node + 1 }
func (m matcher) second(node int) int { return m.behind[node+1] }

// isLeaf reports whether a node of the kind OrVisit or OrEach matches the names of a part.
func (m matcher) isLeaf(p part) bool {
	l := slices.Clone(m.nodes[p.node].Names)
	if p.to-p.from != len(l) {
		return false
	}
	slices.Sort(l)
	return slices.Equal(l, slices.Sorted(slices.Values(m.names[p.from:p.to])))
}

// gapLinks returns the links of a gap ahead of a visit.
func gapLinks(gap api.Span, at int) []api.Link {
	var l []api.Link
	if gap.Hi < api.MaxGap {
		l = append(l, api.Link{From: at - 1, To: at, Most: gap.Hi})
	}
	if gap.Lo > 0 {
		l = append(l, api.Link{From: at, To: at - 1, Most: -gap.Lo})
	}
	return l
}

// withinLinks returns the link that OrWithin asks for; none if the part has one visit alone.
func withinLinks(p part, most int) []api.Link {
	if p.from >= p.to-1 {
		return nil
	}
	return []api.Link{{From: p.from, To: p.to - 1, Most: most}}
}

// choices yields all ways in which a part can be matched, but for those of which the names tell that they are none.
func (m matcher) choices(p part) iter.Seq[choice] {
	o, kid := m.nodes[p.node], part{node: m.first(p.node), from: p.from, to: p.to}
	switch o.Kind {
	case api.OrThen:
		return m.cuts(p, kid, part{node: m.second(p.node)})
	case api.OrEither:
		other := kid
		other.node = m.second(p.node)
		return slices.Values([]choice{{parts: []part{kid}}, {parts: []part{other}}})
	case api.OrWithin:
		return slices.Values([]choice{{parts: []part{kid}, links: withinLinks(p, o.Most)}})
	case api.OrTimes:
		switch p.times {
		case 0:
			return m.repetitions(p)
		case 1:
			return slices.Values([]choice{{parts: []part{kid}}})
		}
		return m.cuts(p, kid, part{node: p.node, times: p.times - 1})
	}
	if m.isLeaf(p) {
		return slices.Values([]choice{{}})
	}
	return slices.Values([]choice{})
}

// cuts yields the ways to cut a part in two, with the gap of its node between them.
func (m matcher) cuts(p, a, b part) iter.Seq[choice] {
	return func(yield func(choice) bool) {
		for at := p.from + 1; at < p.to; at++ {
			a.from, a.to, b.from, b.to = p.from, at, at, p.to
			if !yield(choice{[]part{a, b}, gapLinks(m.nodes[p.node].Gap, at)}) {
				return
			}
		}
	}
}

// repetitions yields the numbers of repetitions that a node of the kind OrTimes allows.
func (m matcher) repetitions(p part) iter.Seq[choice] {
	return func(yield func(choice) bool) {
		for times := m.nodes[p.node].Lo; times <= m.nodes[p.node].Hi; times++ {
			p.times = times
			if !yield(choice{parts: []part{p}}) {
				return
			}
		}
	}
}

// timed is a matcher of visits. It remembers whether a part is matched.
type timed struct {
	matcher
	times []int
	known map[part]bool
}

// newTimed returns the matcher of an order and some visits.
func newTimed(o api.Order, l []api.Visit) timed {
	m := timed{known: map[part]bool{}}
	var names []string
	for _, x := range l {
		names, m.times = append(names, x.Name), append(m.times, x.Time)
	}
	m.matcher = newMatcher(o, names)
	return m
}

// keeps reports whether times keep all of some links.
func keeps(times []int, l []api.Link) bool {
	for _, x := range l {
		if times[x.To] > times[x.From]+x.Most {
			return false
		}
	}
	return true
}

// holds reports whether a way to match a part is one.
func (m timed) holds(c choice) bool {
	if !keeps(m.times, c.links) {
		return false
	}
	for _, x := range c.parts {
		if !m.matches(x) {
			return false
		}
	}
	return true
}

// matches reports whether a part is matched.
func (m timed) matches(p part) bool {
	is, known := m.known[p]
	if !known {
		_, is = m.choose(p)
		m.known[p] = is
	}
	return is
}

// choose returns a way to match a part; false if there is none.
func (m timed) choose(p part) (choice, bool) {
	for c := range m.choices(p) {
		if m.holds(c) {
			return c, true
		}
	}
	return choice{}, false
}

// checkVisits returns the error of Check for an order, or else that of a list of visits.
func checkVisits(o api.Order, l []api.Visit) api.Errno {
	if e := Check(o); e != api.OK {
		return e
	}
	if len(l) > api.MaxVisits {
		return api.ErrLimit
	}
	for k, x := range l {
		if !isTime(x.Time) || k > 0 && x.Time < l[k-1].Time {
			return api.ErrArg
		}
	}
	return api.OK
}

// Matches reports whether a list of visits fulfils an order.
func Matches(o api.Order, l []api.Visit) (bool, api.Errno) {
	if e := checkVisits(o, l); e != api.OK {
		return false, e
	}
	m := newTimed(o, l)
	return m.matches(m.whole()), api.OK
}
