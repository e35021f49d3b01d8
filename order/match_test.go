package order_test

import (
	"slices"
	"strings"
	"testing"

	"patrol/api"
	"patrol/order"
)

func TestP4_4(t *testing.T) {
	for _, x := range []struct {
		source string
		l      []api.Visit
		want   bool
	}{
		{"a", visits("a", 0), true}, {"a", visits("a", api.MaxTime), true}, {"a", visits("b", 0), false}, {"a", visits("A", 0), false}, {"a", visits("", 0), false}, {"a", nil, false}, {"a", visits("a", 0, "a", 0), false},
		{"a then b", visits("a", 5, "b", 5), true}, {"a then b", visits("b", 5, "a", 5), false}, {"a then b", visits("a", 0, "b", api.MaxTime), true}, {"a then b", visits("a", 0), false}, {"a then b", visits("a", 0, "b", 1, "b", 2), false},
		{"a then after 3 to 9 b", visits("a", 5, "b", 8), true}, {"a then after 3 to 9 b", visits("a", 5, "b", 7), false}, {"a then after 3 to 9 b", visits("a", 5, "b", 14), true}, {"a then after 3 to 9 b", visits("a", 5, "b", 15), false},
		{"a then after 3 to 86400 b", visits("a", 5, "b", 900000), true}, {"a then after 3 to 86399 b", visits("a", 0, "b", 86399), true}, {"a then after 3 to 86399 b", visits("a", 0, "b", 86400), false}, {"a then after 3 to 86399 b", visits("a", 0, "b", 86401), false},
		{"a then after 86400 to 86400 b", visits("a", 0, "b", 86400), true}, {"a then after 86400 to 86400 b", visits("a", 0, "b", 500000), true}, {"a then after 86400 to 86400 b", visits("a", 0, "b", 86399), false}, {"a then after 0 to 0 b", visits("a", 7, "b", 7), true}, {"a then after 0 to 0 b", visits("a", 7, "b", 8), false},
		{"each(a, b, c)", visits("c", 0, "a", 1, "b", 2), true}, {"each(a, b, c)", visits("c", 0, "a", 1, "a", 2), false}, {"each(a, b, c)", visits("c", 0, "a", 1), false}, {"each(a, b)", visits("b", 0, "a", 1, "b", 2), false},
		{"a or b", visits("b", 0), true}, {"a or b", visits("c", 0), false}, {"a within 0", visits("a", 9), true}, {"(a then b) within 0", visits("a", 9, "b", 9), true}, {"(a then b) within 0", visits("a", 9, "b", 10), false}, {"(a then b then c) within 7", visits("a", 1, "b", 2, "c", 8), true}, {"(a then b then c) within 7", visits("a", 1, "b", 2, "c", 9), false},
		{"times 2 to 3 a", visits("a", 0), false}, {"times 2 to 3 a", visits("a", 0, "a", 1), true}, {"times 2 to 3 a", visits("a", 0, "a", 1, "a", 2), true}, {"times 2 to 3 a", visits("a", 0, "a", 1, "a", 2, "a", 3), false}, {"times 2 to 3 after 1 to 2 a", visits("a", 0, "a", 1, "a", 3), true}, {"times 2 to 3 after 1 to 2 a", visits("a", 0, "a", 1, "a", 1), false}, {"times 2 to 3 after 1 to 2 a", visits("a", 0, "a", 1, "a", 4), false},
		{"times 1 to 2 after 5 to 6 (a then after 1 to 2 b)", visits("a", 0, "b", 2, "a", 7, "b", 8), true}, {"times 1 to 2 after 5 to 6 (a then after 1 to 2 b)", visits("a", 0, "b", 2, "a", 4, "b", 5), false}, {"times 1 to 2 after 5 to 6 (a then after 1 to 2 b)", visits("a", 0, "b", 1), true},
		{"(a or a then a) then after 5 to 6 (a or a then a)", visits("a", 0, "a", 1, "a", 6), true}, {"(a or a then a) then after 5 to 6 (a or a then a)", visits("a", 0, "a", 5, "a", 6), true}, {"(a or a then a) then after 5 to 6 (a or a then a)", visits("a", 0, "a", 4, "a", 8), false},
		{"(a then b) within 5 or a then b", visits("a", 0, "b", 50), true},
	} {
		if is, e := order.Matches(parsed(t, x.source), x.l); is != x.want || e != api.OK {
			t.Error("Matches", x.source, x.l, is, e)
		}
	}
	if is, e := order.Matches(parsed(t, "times 5 to 5 times 6 to 6 a"), make30("a")); !is || e != api.OK {
		t.Error("Matches", is, e)
	}
}

// make30 returns 30 visits with a name, at the times 0 to 29.
func make30(name string) []api.Visit {
	var l []api.Visit
	for k := range api.MaxVisits {
		l = append(l, api.Visit{Name: name, Time: k})
	}
	return l
}

// TestP4_4Errors checks the errors of the functions that take visits.
func TestP4_4Errors(t *testing.T) {
	a := visit("a")
	for _, x := range []struct {
		l []api.Visit
		e api.Errno
	}{
		{make30("a"), api.OK}, {visits("a", 0), api.OK}, {visits("a", api.MaxTime, "a", api.MaxTime), api.OK}, {visits("?", 5), api.OK}, {visits(strings.Repeat("a", 1000), 5), api.OK},
		{append(make30("a"), visits("a", 30)...), api.ErrLimit}, {make([]api.Visit, 1000), api.ErrLimit}, {append(make30("a"), visits("a", -1)...), api.ErrLimit}, {append(visits("a", -1), make30("a")...), api.ErrLimit},
		{visits("a", -1), api.ErrArg}, {visits("a", api.MaxTime+1), api.ErrArg}, {visits("a", minInt), api.ErrArg}, {visits("a", maxInt), api.ErrArg}, {visits("a", 5, "a", 4), api.ErrArg}, {visits("a", 0, "a", 9, "a", 8), api.ErrArg}, {visits("a", 0, "a", -1), api.ErrArg}, {visits("a", 0, "a", api.MaxTime+1), api.ErrArg},
	} {
		is, e := order.Matches(a, x.l)
		p, f := order.Explain(a, x.l)
		g := order.CheckExplain(a, x.l, []api.Piece{{Node: 0, From: 0, To: len(x.l)}})
		want, proof := x.e, x.e
		if fulfils := len(x.l) == 1 && x.l[0].Name == "a"; x.e == api.OK && !fulfils {
			want, proof = api.ErrNone, api.ErrProof
		}
		if e != x.e || f != want || g != proof || f != api.OK && len(p) != 0 || e != api.OK && is {
			t.Error("visits", x.l, is, e, p, f, g)
		}
		if x.e != api.OK && order.CheckExplain(a, x.l, make([]api.Piece, 301)) != x.e {
			t.Error("CheckExplain", x.l)
		}
	}
	for n, want := range map[int]api.Errno{0: api.ErrProof, 1: api.ErrProof, 300: api.ErrProof, 301: api.ErrLimit, 100000: api.ErrLimit} {
		if e := order.CheckExplain(a, visits("b", 0), make([]api.Piece, n)); e != want {
			t.Error("CheckExplain", n, e)
		}
	}
}

// fulfilling returns a random list that an order accepts.
func (c *chance) fulfilling(o api.Order) []string {
	switch o.Kind {
	case api.OrVisit:
		return o.Names
	case api.OrEach:
		return c.shuffled(slices.Clone(o.Names))
	case api.OrThen:
		return slices.Concat(c.fulfilling(o.Kids[0]), c.fulfilling(o.Kids[1]))
	case api.OrEither:
		return c.fulfilling(o.Kids[c.n(2)])
	case api.OrWithin:
		return c.fulfilling(o.Kids[0])
	}
	var l []string
	for range c.from(o.Lo, o.Hi) {
		l = append(l, c.fulfilling(o.Kids[0])...)
	}
	return l
}

// visits returns random visits: mostly such as an order accepts, with small gaps.
func (c *chance) visits(o api.Order) []api.Visit {
	names := c.fulfilling(o)
	if c.n(4) == 0 {
		names = slices.Clone(names)
		switch k := c.n(len(names)); c.n(3) {
		case 0:
			names[k] = string(rune('a' + c.n(5)))
		case 1:
			names = slices.Delete(names, k, k+1)
		default:
			names = slices.Insert(names, k, names[c.n(len(names))])
		}
	}
	t, step := c.n(100), c.pick(1, 4, 8)
	var l []api.Visit
	for _, name := range names {
		t += c.n(step + 1)
		l = append(l, api.Visit{Name: name, Time: t})
	}
	return l[:min(len(l), api.MaxVisits)]
}

// explains is the definition of an explanation: it returns how many of the pieces, from the first one on, explain some visits by the node with an index; -1 if none do.
func explains(o api.Order, node int, l []api.Visit, from, to int, p []api.Piece) int {
	if len(p) == 0 || p[0] != (api.Piece{Node: node, From: from, To: to}) || from >= to {
		return -1
	}
	switch o.Kind {
	case api.OrVisit, api.OrEach:
		if !matches(o, l[from:to], true) {
			return -1
		}
		return 1
	case api.OrEither:
		other := node + 1 + len(flat(o.Kids[0]))
		n := explains(o.Kids[0], node+1, l, from, to, p[1:])
		if m := explains(o.Kids[1], other, l, from, to, p[1:]); m > n {
			n = m
		}
		return more(n, 1)
	case api.OrWithin:
		if l[to-1].Time > l[from].Time+o.Most {
			return -1
		}
		return more(explains(o.Kids[0], node+1, l, from, to, p[1:]), 1)
	case api.OrThen:
		for m := from + 1; m < to; m++ {
			if n := explains(o.Kids[0], node+1, l, from, m, p[1:]); n > 0 && allows(o.Gap, l[m].Time-l[m-1].Time) {
				return more(explains(o.Kids[1], node+1+len(flat(o.Kids[0])), l, m, to, p[1+n:]), 1+n)
			}
		}
		return -1
	}
	return more(explainsTimes(o, node, l, from, to, p[1:], 0), 1)
}

func more(n, m int) int {
	if n < 0 {
		return -1
	}
	return n + m
}

// explainsTimes is the part of explains for what follows some repetitions.
func explainsTimes(o api.Order, node int, l []api.Visit, from, to int, p []api.Piece, had int) int {
	if from == to {
		if had < o.Lo || had > o.Hi {
			return -1
		}
		return 0
	}
	for m := from + 1; m <= to; m++ {
		if n := explains(o.Kids[0], node+1, l, from, m, p); n > 0 && (had == 0 || allows(o.Gap, l[from].Time-l[from-1].Time)) {
			return more(explainsTimes(o, node, l, m, to, p[n:], had+1), n)
		}
	}
	return -1
}

// flat returns the nodes of an order in preorder.
func flat(o api.Order) []api.Order {
	l := []api.Order{o}
	for _, kid := range o.Kids {
		l = append(l, flat(kid)...)
	}
	return l
}

// TestP4_5 compares Matches, Explain and CheckExplain with their definitions, and checks explanations that are changed.
func TestP4_5(t *testing.T) {
	c := chance(45)
	yes, no, accepted, refused := 0, 0, 0, 0
	for range 4000 {
		o := c.order(c.from(1, 5), c.from(1, 3))
		l := c.visits(o)
		want := matches(o, l, false)
		is, e := order.Matches(o, l)
		p, f := order.Explain(o, l)
		if is != want || e != api.OK || (f == api.OK) != want || f != api.OK && (f != api.ErrNone || len(p) > 0) {
			t.Error("Matches, Explain", textOf(o), l, is, e, p, f)
		}
		if !want {
			no++
			p = c.guess(o, l)
		} else if explains(o, 0, l, 0, len(l), p) != len(p) || order.CheckExplain(o, l, p) != api.OK {
			t.Error("Explain", textOf(o), l, p)
		}
		if want {
			yes++
		}
		for range 8 {
			q := c.changed(p, len(flat(o)))
			want, e := explains(o, 0, l, 0, len(l), q) == len(q) && len(q) > 0, order.CheckExplain(o, l, q)
			if want != (e == api.OK) || e != api.OK && e != api.ErrProof {
				t.Error("CheckExplain", textOf(o), l, q, e, want)
			}
			if want {
				accepted++
			} else {
				refused++
			}
		}
	}
	if yes < 1000 || no < 1000 || accepted < 100 || refused < 1000 {
		t.Error("not an even test:", yes, no, accepted, refused)
	}
}

// guess returns the pieces of an explanation if the times of visits did not count; none if the names are not accepted.
func (c *chance) guess(o api.Order, l []api.Visit) []api.Piece {
	var free func(o api.Order) api.Order
	free = func(o api.Order) api.Order {
		o = copyOf(o)
		for k, kid := range o.Kids {
			o.Kids[k] = free(kid)
		}
		switch o.Kind {
		case api.OrThen, api.OrTimes:
			o.Gap = anyGap()
		case api.OrWithin:
			o.Most = api.MaxGap - 1
		}
		return o
	}
	p, _ := order.Explain(free(o), l)
	return p
}

// changed returns pieces of which some are changed, missing or too many.
func (c *chance) changed(l []api.Piece, nodes int) []api.Piece {
	l = slices.Clone(l)
	if len(l) == 0 {
		return []api.Piece{{Node: c.n(3) - 1, From: c.n(3) - 1, To: c.n(4)}}
	}
	k := c.n(len(l))
	switch c.n(8) {
	case 0:
		l[k].Node += c.pick(-1, 1, 2, -2)
	case 1:
		l[k].From += c.pick(-1, 1)
	case 2:
		l[k].To += c.pick(-1, 1)
	case 3:
		l = slices.Delete(l, k, k+1)
	case 4:
		l = slices.Insert(l, k, l[c.n(len(l))])
	case 5: // a cut elsewhere, which may be right, too
		at, by := l[k].To, c.pick(-1, 1)
		for n := range l {
			if n > 0 && l[n].To == at {
				l[n].To += by
			}
			if l[n].From == at {
				l[n].From += by
			}
		}
	case 6: // the other kid of OrEither
		l[k].Node = c.n(nodes)
	}
	return l
}

// TestP4_5Every gives CheckExplain all lists of two or three small pieces.
func TestP4_5Every(t *testing.T) {
	var pieces []api.Piece
	for node := -1; node <= 3; node++ {
		for from := -1; from <= 2; from++ {
			for to := range 4 {
				pieces = append(pieces, api.Piece{Node: node, From: from, To: to})
			}
		}
	}
	for _, x := range []struct {
		source string
		l      []api.Visit
		want   [][]api.Piece
	}{
		{"a or b", visits("a", 0), [][]api.Piece{{{Node: 0, From: 0, To: 1}, {Node: 1, From: 0, To: 1}}}},
		{"a or a", visits("a", 0), [][]api.Piece{{{Node: 0, From: 0, To: 1}, {Node: 1, From: 0, To: 1}}, {{Node: 0, From: 0, To: 1}, {Node: 2, From: 0, To: 1}}}},
		{"a then b", visits("a", 0, "b", 0), [][]api.Piece{{{Node: 0, From: 0, To: 2}, {Node: 1, From: 0, To: 1}, {Node: 2, From: 1, To: 2}}}},
		{"times 1 to 2 a", visits("a", 0, "a", 0), [][]api.Piece{{{Node: 0, From: 0, To: 2}, {Node: 1, From: 0, To: 1}, {Node: 1, From: 1, To: 2}}}},
		{"times 1 to 2 a", visits("a", 0, "a", 0, "a", 0), nil}, {"times 2 to 2 a", visits("a", 0), nil}, {"times 2 to 2 after 5 to 6 a", visits("a", 0, "a", 4), nil}, {"a then after 5 to 6 b", visits("a", 0, "b", 4), nil}, {"a then b", nil, nil}, {"a or b", nil, nil},
		{"(a or b) within 5", visits("b", 0), [][]api.Piece{{{Node: 0, From: 0, To: 1}, {Node: 1, From: 0, To: 1}, {Node: 3, From: 0, To: 1}}}},
		{"each(a, b) within 5", visits("b", 0, "a", 5), [][]api.Piece{{{Node: 0, From: 0, To: 2}, {Node: 1, From: 0, To: 2}}}},
		{"each(a, b) within 5", visits("b", 0, "a", 6), nil},
	} {
		o, accepted := parsed(t, x.source), 0
		give := func(p ...api.Piece) {
			want := slices.ContainsFunc(x.want, func(l []api.Piece) bool { return slices.Equal(l, p) })
			e := order.CheckExplain(o, x.l, p)
			if want != (e == api.OK) || e != api.OK && e != api.ErrProof {
				t.Error("CheckExplain", x.source, x.l, p, e)
			}
			if e == api.OK {
				accepted++
			}
		}
		give()
		for _, a := range pieces {
			give(a)
			if a.Node != 0 || a.From != 0 {
				continue
			}
			for _, b := range pieces {
				give(a, b)
				for _, d := range pieces {
					give(a, b, d)
				}
			}
		}
		if accepted != len(x.want) {
			t.Error("CheckExplain", x.source, accepted)
		}
	}
	o := parsed(t, "a then b or a")
	for _, p := range [][]api.Piece{{{Node: 0, From: minInt, To: maxInt}}, {{Node: maxInt, From: 0, To: 1}}, {{Node: 0, From: 0, To: 2}, {Node: minInt, From: 0, To: 2}}, {{Node: 0, From: 0, To: 2}, {Node: 1, From: 0, To: 2}, {Node: 2, From: 0, To: maxInt}}, {{Node: 0, From: 0, To: 2}, {Node: 1, From: 0, To: 2}, {Node: 2, From: 0, To: 2}, {Node: 3, From: 2, To: 3}}} {
		if e := order.CheckExplain(o, visits("a", 0, "b", 1), p); e != api.ErrProof {
			t.Error("CheckExplain", p, e)
		}
	}
}

// TestP4_5Long explains lists for which there are many pieces, or many ways that lead nowhere.
func TestP4_5Long(t *testing.T) {
	for source, fulfils := range map[string]bool{
		"times 5 to 5 times 6 to 6 a": true, "times 5 to 5 (times 6 to 6 (a within 1 within 1 within 1) within 5 within 5 within 5)": true, "times 1 to 5 times 1 to 6 times 1 to 1 times 1 to 1 times 1 to 1 times 1 to 1 times 1 to 1 times 1 to 1 a": true,
		"times 1 to 5 (times 1 to 2 times 1 to 3 a within 4)": false, "times 1 to 5 (a or a then a then (a or a)) then after 2 to 3 b": false, "times 1 to 5 times 1 to 3 (a or a)": true,
	} {
		o := parsed(t, source)
		l := make30("a")
		if source == "times 1 to 5 times 1 to 3 (a or a)" {
			l = l[:15]
		}
		is, e := order.Matches(o, l)
		p, f := order.Explain(o, l)
		if is != fulfils || e != api.OK || (f == api.OK) != fulfils || len(p) > 300 || fulfils && order.CheckExplain(o, l, p) != api.OK {
			t.Error("Explain", source, is, e, p, f)
		}
	}
}
