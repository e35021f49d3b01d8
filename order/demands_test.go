package order_test

import (
	"cmp"
	"maps"
	"slices"
	"strings"
	"testing"

	"patrol/api"
	"patrol/order"
)

// pairs is a demand: for each two visits the least Most of its links.
type pairs map[[2]int]int

// joined is the definition of joining.
func joined(l ...pairs) pairs {
	d := pairs{}
	for _, x := range l {
		for ends, most := range x {
			if least, is := d[ends]; !is || most < least {
				d[ends] = most
			}
		}
	}
	return d
}

// linksOf returns the links of a demand in their order.
func linksOf(d pairs) api.Demand {
	var l api.Demand
	for ends, most := range d {
		l.Links = append(l.Links, api.Link{From: ends[0], To: ends[1], Most: most})
	}
	slices.SortFunc(l.Links, func(a, b api.Link) int { return cmp.Or(cmp.Compare(a.From, b.From), cmp.Compare(a.To, b.To)) })
	return l
}

// different returns demands, each once.
func different(l []pairs) []pairs {
	var all []pairs
	for _, d := range l {
		if !slices.ContainsFunc(all, func(x pairs) bool { return maps.Equal(x, d) }) {
			all = append(all, d)
		}
	}
	return all
}

func gapPairs(gap api.Span, m int) pairs {
	d := pairs{}
	if gap.Lo > 0 {
		d[[2]int{m, m - 1}] = -gap.Lo
	}
	if gap.Hi < api.MaxGap {
		d[[2]int{m - 1, m}] = gap.Hi
	}
	return d
}

// demandsOf is the definition of the demands of a node, or, if c is not 0, of c repetitions of its kid.
func demandsOf(o api.Order, c int, names []string, i, j int) []pairs {
	var l []pairs
	cut := func(a, b func(i, j int) []pairs) {
		for m := i + 1; m < j; m++ {
			for _, x := range a(i, m) {
				for _, y := range b(m, j) {
					l = append(l, joined(x, y, gapPairs(o.Gap, m)))
				}
			}
		}
	}
	kid := func(k int) func(i, j int) []pairs {
		return func(i, j int) []pairs { return demandsOf(o.Kids[k], 0, names, i, j) }
	}
	switch {
	case c == 1:
		return kid(0)(i, j)
	case c > 1:
		cut(kid(0), func(i, j int) []pairs { return demandsOf(o, c-1, names, i, j) })
	case o.Kind == api.OrVisit || o.Kind == api.OrEach:
		if accepts(o, names[i:j]) {
			l = []pairs{{}}
		}
	case o.Kind == api.OrThen:
		cut(kid(0), kid(1))
	case o.Kind == api.OrEither:
		l = append(kid(0)(i, j), kid(1)(i, j)...)
	case o.Kind == api.OrWithin:
		for _, x := range kid(0)(i, j) {
			if i < j-1 {
				x = joined(x, pairs{{i, j - 1}: o.Most})
			}
			l = append(l, x)
		}
	default:
		for c := o.Lo; c <= o.Hi; c++ {
			l = append(l, demandsOf(o, c, names, i, j)...)
		}
	}
	return different(l)
}

// tooMany reports whether a node, or a number of repetitions, has too many demands for some names of a list.
func tooMany(o api.Order, names []string) bool {
	for _, x := range flat(o) {
		for j := range len(names) + 1 {
			for i := range j {
				for c := range x.Hi + 1 {
					if len(demandsOf(x, c, names, i, j)) > api.MaxDemands {
						return true
					}
				}
			}
		}
	}
	return false
}

func compareDemands(a, b api.Demand) int {
	return slices.CompareFunc(a.Links, b.Links, func(x, y api.Link) int {
		return cmp.Or(cmp.Compare(x.From, y.From), cmp.Compare(x.To, y.To), cmp.Compare(x.Most, y.Most))
	})
}

// TestP4_6Defined compares Demands with the definition.
func TestP4_6Defined(t *testing.T) {
	c := chance(46)
	some, many, none := 0, 0, 0
	for range 8000 {
		o := c.order(c.from(1, 6), c.from(1, 2))
		names := c.fulfilling(o)
		if len(names) > 6 {
			continue
		}
		if c.n(4) == 0 {
			names = slices.Clone(names)
			names[c.n(len(names))] = "a"
		}
		var want []api.Demand
		for _, d := range demandsOf(o, 0, names, 0, len(names)) {
			want = append(want, linksOf(d))
		}
		slices.SortFunc(want, compareDemands)
		got, e := order.Demands(o, names)
		if tooMany(o, names) {
			if e != api.ErrLimit || len(got) > 0 {
				t.Error("Demands", textOf(o), names, got, e)
			}
			continue
		}
		sameDemands(t, textOf(o)+": "+strings.Join(names, " "), got, want)
		if e != api.OK {
			t.Error("Demands", textOf(o), names, e)
		}
		switch {
		case len(got) > 1:
			many++
		case len(got) == 1:
			some++
		default:
			none++
		}
	}
	if some < 300 || many < 100 || none < 50 {
		t.Error("not an even test:", some, many, none)
	}
}

func TestP4_6Cases(t *testing.T) {
	for _, x := range []struct {
		source, names string
		want          []api.Demand
	}{
		{"a", "", nil}, {"a", "a", demands(links())}, {"a", "b", nil}, {"a", "a a", nil}, {"each(b, a)", "a b", demands(links())}, {"each(b, a)", "a a", nil}, {"each(b, a)", "a", nil},
		{"a then b", "a b", demands(links())}, {"a then after 0 to 5 b", "a b", demands(links(0, 1, 5))}, {"a then after 5 to 86400 b", "a b", demands(links(1, 0, -5))}, {"a then after 0 to 0 b", "a b", demands(links(0, 1, 0))}, {"a then after 86400 to 86400 b", "a b", demands(links(1, 0, -86400))}, {"a then after 1 to 86399 b", "a b", demands(links(0, 1, 86399, 1, 0, -1))},
		{"a within 5", "a", demands(links())}, {"(a then b) within 5 within 3", "a b", demands(links(0, 1, 3))}, {"(a then after 2 to 9 b) within 5", "a b", demands(links(0, 1, 5, 1, 0, -2))}, {"(a then after 2 to 9 b) within 15", "a b", demands(links(0, 1, 9, 1, 0, -2))}, {"(a then b then c) within 0", "a b c", demands(links(0, 2, 0))}, {"c then (a then b) within 5", "c a b", demands(links(1, 2, 5))},
		{"a or a", "a", demands(links())}, {"a then b or a then after 3 to 86400 b", "a b", demands(links(), links(1, 0, -3))}, {"a then after 9 to 86400 b or a then after 3 to 86400 b", "a b", demands(links(1, 0, -9), links(1, 0, -3))}, {"a then after 1 to 2 b or (a then b) within 2", "a b", demands(links(0, 1, 2), links(0, 1, 2, 1, 0, -1))},
		{"(a or a then a) then after 1 to 86400 (a or a then a)", "a a a", demands(links(1, 0, -1), links(2, 1, -1))}, {"times 1 to 2 after 0 to 7 (a or a then a)", "a a", demands(links(), links(0, 1, 7))}, {"times 2 to 3 after 2 to 7 a", "a a a", demands(links(0, 1, 7, 1, 0, -2, 1, 2, 7, 2, 1, -2))}, {"times 2 to 3 after 2 to 7 a", "a", nil}, {"times 1 to 3 after 2 to 7 a", "a", demands(links())}, {"times 1 to 1 after 2 to 7 a", "a", demands(links())},
		{"a then b then c", "a b", nil}, {"a then b then c", "a b c d", nil}, {"a", "a a a a a a a a a a a a a", nil}, {"times 5 to 6 after 0 to 9 times 2 to 2 after 0 to 9 a", "b b b b b b b b b b b b b b b b b b b b b b b b b b b b b b", nil},
	} {
		sameDemands(t, x.source+": "+x.names, demanded(t, parsed(t, x.source), words(x.names)...), x.want)
	}
	o := visit("a")
	for _, name := range []string{"", "A", " ", "\xff", strings.Repeat("a", 100)} {
		sameDemands(t, "a strange name", demanded(t, o, name), nil)
	}
}

// TestP4_6Limits has lists with as many demands as there may be, and more.
func TestP4_6Limits(t *testing.T) {
	two, three := "(a then after 0 to 1 b or a then after 0 to 2 b)", "(a then after 0 to 1 b or a then after 0 to 2 b or a then after 0 to 3 b)"
	// sixtyFive has, for ten visits, 65 ways to be cut in four.
	const sixtyFive = "times 1 to 4 a then after 0 to 3 times 1 to 5 a then after 0 to 2 times 1 to 6 a then after 0 to 1 times 1 to 5 a"
	for _, x := range []struct {
		source, names string
		many          int
		e             api.Errno
	}{
		{"times 1 to 6 a", "a a a a a a", 1, api.OK}, {"times 2 to 2 times 6 to 6 a", strings.Repeat("a ", 12), 1, api.OK}, {"times 2 to 3 times 1 to 6 a", strings.Repeat("a ", 12), 1, api.OK}, {"times 2 to 3 times 1 to 6 a", strings.Repeat("a ", 13), 0, api.ErrLimit}, {"times 5 to 5 times 6 to 6 a", strings.Repeat("a ", 30), 0, api.ErrLimit}, {"times 2 to 3 times 1 to 6 a", strings.Repeat("a ", 12) + "b", 0, api.OK}, {"times 2 to 3 times 1 to 6 a", strings.Repeat("a ", 19), 0, api.OK},
		{"times 6 to 6 " + two, strings.Repeat("a b ", 6), 64, api.OK}, {"times 5 to 6 " + two, strings.Repeat("a b ", 6), 64, api.OK}, {"times 4 to 4 " + three, strings.Repeat("a b ", 4), 0, api.ErrLimit}, {"times 3 to 4 " + three, strings.Repeat("a b ", 3), 27, api.OK},
		{sixtyFive, strings.Repeat("a ", 10), 0, api.ErrLimit}, {sixtyFive, strings.Repeat("a ", 4), 1, api.OK}, {sixtyFive, strings.Repeat("a ", 9), 0, api.OK}, {sixtyFive, strings.Repeat("a ", 11), 0, api.ErrLimit}, {sixtyFive, strings.Repeat("a ", 13), 0, api.ErrLimit}, {sixtyFive, strings.Repeat("a ", 21), 0, api.OK},
		{"times 4 to 4 " + three + " then c", strings.Repeat("a b ", 4), 0, api.ErrLimit},  // a kid has too many, though the root has none
		{"times 1 to 3 " + three, strings.Repeat("a b ", 4), 0, api.OK},                    // 4 repetitions would have too many, but there are none
		{"times 5 to 5 " + three, strings.Repeat("a b ", 4), 0, api.ErrLimit},              // 4 of 5 repetitions have too many
		{"times 5 to 5 " + three, "b " + strings.Repeat("a b ", 4) + "c", 0, api.ErrLimit}, // for a part of the list
		{"times 5 to 5 " + three, strings.Repeat("a b ", 6) + "a", 0, api.OK},              // a list that is too long, and not accepted
		{"c or times 4 to 4 " + three, strings.Repeat("a b ", 4), 0, api.ErrLimit},
		{"c or times 4 to 4 " + three, "c", 1, api.OK},
		{"c then times 2 to 2 " + three + " then times 2 to 2 " + three, "c " + strings.Repeat("a b ", 4), 0, api.ErrLimit}, // the root alone has too many
	} {
		o, names := parsed(t, x.source), words(x.names)
		l, e := order.Demands(o, names)
		if e != x.e || e != api.OK && len(l) > 0 || x.many > 0 && len(l) != x.many {
			t.Error("Demands", x.source, names, len(l), e)
		}
	}
	if n := len(demandsOf(parsed(t, sixtyFive), 0, words(strings.Repeat("a ", 10)), 0, 10)); n != 65 {
		t.Error("not the right test:", n)
	}
	for n, want := range map[int]api.Errno{30: api.OK, 31: api.ErrLimit, 10000: api.ErrLimit} {
		if l, e := order.Demands(visit("a"), make([]string, n)); e != want || len(l) > 0 {
			t.Error("Demands", n, l, e)
		}
	}
}

func TestP4_6Fulfils(t *testing.T) {
	for _, x := range []struct {
		d     api.Demand
		times []int
		want  bool
		e     api.Errno
	}{
		{links(), nil, true, api.OK}, {links(), []int{5}, true, api.OK}, {links(0, 1, 5), []int{0, 5}, true, api.OK}, {links(0, 1, 5), []int{0, 6}, false, api.OK}, {links(1, 0, -5), []int{0, 5}, true, api.OK}, {links(1, 0, -5), []int{0, 4}, false, api.OK}, {links(0, 1, 5), []int{9, 0}, true, api.OK}, {links(0, 0, 0), []int{9}, true, api.OK}, {links(0, 0, -1), []int{9}, false, api.OK},
		{links(0, 2, 5, 1, 2, 0), []int{0, 5, 5}, true, api.OK}, {links(0, 2, 5, 1, 2, 0), []int{0, 4, 5}, false, api.OK}, {links(0, 2, 5, 1, 2, 0), []int{0, 6, 6}, false, api.OK}, {links(1, 0, 3, 0, 1, 5, 0, 1, 4), []int{0, 4}, true, api.OK}, {links(1, 0, 3, 0, 1, 5, 0, 1, 4), []int{0, 5}, false, api.OK},
		{links(0, 1, api.MaxTime), []int{0, api.MaxTime}, true, api.OK}, {links(1, 0, -api.MaxTime), []int{0, api.MaxTime}, true, api.OK}, {links(1, 0, -api.MaxTime), []int{1, api.MaxTime}, false, api.OK},
		{links(0, 1, api.MaxTime+1), []int{0, 5}, false, api.ErrArg}, {links(0, 1, -api.MaxTime-1), []int{0, 5}, false, api.ErrArg}, {links(0, 1, maxInt), []int{0, 5}, false, api.ErrArg}, {links(0, 1, minInt), []int{0, 5}, false, api.ErrArg}, {links(0, 2, 5), []int{0, 5}, false, api.ErrArg}, {links(2, 0, 5), []int{0, 5}, false, api.ErrArg}, {links(-1, 0, 5), []int{0, 5}, false, api.ErrArg}, {links(0, -1, 5), []int{0, 5}, false, api.ErrArg}, {links(0, 0, 5), nil, false, api.ErrArg}, {links(maxInt, minInt, 5), []int{0, 5}, false, api.ErrArg}, {links(0, 1, -9, 0, 2, 5), []int{0, 5}, false, api.ErrArg},
		{links(), []int{-1}, false, api.ErrArg}, {links(), []int{0, api.MaxTime + 1}, false, api.ErrArg}, {links(), []int{minInt}, false, api.ErrArg}, {links(), []int{maxInt}, false, api.ErrArg}, {links(), make([]int, 30), true, api.OK}, {links(), make([]int, 31), false, api.ErrArg}, {links(29, 0, 0), make([]int, 30), true, api.OK}, {links(30, 0, 0), make([]int, 30), false, api.ErrArg},
		{api.Demand{Links: make([]api.Link, 1200)}, []int{0}, true, api.OK}, {api.Demand{Links: make([]api.Link, 1201)}, []int{0}, false, api.ErrArg},
	} {
		if is, e := order.Fulfils(x.d, x.times); is != x.want || e != x.e {
			t.Error("Fulfils", x.d, x.times, is, e)
		}
	}
}
