package order_test

import (
	"slices"
	"strings"
	"testing"

	"patrol/api"
	"patrol/order"
)

func checked(t *testing.T, what string, o api.Order, want api.Errno) {
	t.Helper()
	if e := order.Check(o); e != want {
		t.Errorf("Check: %s: %d, not %d", what, e, want)
	}
}

// with returns an order, changed.
func with(o api.Order, change func(o *api.Order)) api.Order {
	o = copyOf(o)
	change(&o)
	return o
}

// letters returns some different names.
func letters(n int) []string {
	var l []string
	for k := range n {
		l = append(l, string(rune('a'+k)))
	}
	return l
}

// thens returns an order in which visits follow one another, with a small depth.
func thens(names ...string) api.Order {
	if len(names) == 1 {
		return visit(names[0])
	}
	return then(thens(names[:len(names)/2]...), anyGap(), thens(names[len(names)/2:]...))
}

// deep returns an order with so many nodes on a path.
func deep(depth int) api.Order {
	o := visit("a")
	for range depth - 1 {
		o = within(o, 5)
	}
	return o
}

// wide returns an order of 39 nodes: 19 of them have two kids.
func wide() api.Order { return thens(strings.Split(strings.Repeat("a", 20), "")...) }

func TestP4_1WellFormed(t *testing.T) {
	a, b := visit("a"), visit("b")
	for what, o := range map[string]api.Order{
		"visit": a, "a long name": visit("abcdefghijklmnop"), "digits": visit("0189"), "a reserved name": visit("then"),
		"each of two": each("b", "a"), "each of four": each("a", "b", "c", "0"),
		"then": then(a, anyGap(), b), "then at once": then(a, span(0, 0), b), "then late": then(a, span(api.MaxGap, api.MaxGap), b), "then itself": then(a, span(5, 5), a),
		"either": either(a, b), "within": within(a, 0), "within a day": within(a, api.MaxGap-1), "once": times(1, 1, span(0, 0), a), "often": times(1, 6, anyGap(), a), "six times": times(6, 6, span(3, 9), a),
		"empty lists": {Kind: api.OrVisit, Names: []string{"a"}, Kids: []api.Order{}}, "no names": {Kind: api.OrWithin, Names: []string{}, Kids: []api.Order{a}},
	} {
		checked(t, what, o, api.OK)
	}
}

// badNodes returns nodes that are not well-formed, though their kids are.
func badNodes() []api.Order {
	a, b := visit("a"), visit("b")
	l := []api.Order{{}, {Kind: 7, Names: []string{"a"}}, {Kind: -1, Names: []string{"a"}}, {Kind: maxInt}, {Kind: minInt}, {Kind: api.OrVisit}, {Kind: api.OrVisit, Names: words("a b")}}
	for _, name := range []string{"", "A", "Z", "a b", " a", "a ", "a-b", "a_b", "`", "{", "/", ":", "\xe9", "\u00e9", "a\n", "\x00", "abcdefghijklmnopq", strings.Repeat("a", 1000)} {
		l = append(l, visit(name), each("b", name))
	}
	l = append(l, each(), each("a"), each("a", "a"), each("a", "b", "a"), each("a", "b", "b"), each("a", "b", "c", "d", "e"), each("a", "b", "c", "d", "a"))
	for _, gap := range []api.Span{span(-1, 5), span(6, 5), span(0, api.MaxGap+1), span(0, -1), span(minInt, maxInt), span(api.MaxGap+1, api.MaxGap+1), span(api.MaxGap, 0)} {
		l = append(l, then(a, gap, b), times(1, 2, gap, a))
	}
	for _, most := range []int{-1, api.MaxGap, api.MaxGap + 1, minInt, maxInt} {
		l = append(l, within(a, most))
	}
	for _, x := range []api.Span{span(0, 1), span(0, 0), span(-1, 2), span(2, 1), span(1, 7), span(7, 7), span(1, maxInt), span(minInt, 1), span(1, 0)} {
		l = append(l, times(x.Lo, x.Hi, anyGap(), a))
	}
	for kids, kinds := range [][]int{{api.OrThen, api.OrEither, api.OrWithin, api.OrTimes}, {api.OrVisit, api.OrEach, api.OrThen, api.OrEither}, {api.OrVisit, api.OrEach, api.OrWithin, api.OrTimes}, {api.OrVisit, api.OrEach, api.OrThen, api.OrEither, api.OrWithin, api.OrTimes}} {
		for _, o := range goodNodes() {
			if slices.Contains(kinds, o.Kind) {
				l = append(l, with(o, func(o *api.Order) { o.Kids = []api.Order{a, b, a}[:kids] }))
			}
		}
	}
	return l
}

// goodNodes returns a node of each kind.
func goodNodes() []api.Order {
	a, b := visit("a"), visit("b")
	return []api.Order{a, each("a", "b"), then(a, span(3, 9), b), either(a, b), within(a, 5), times(2, 3, span(3, 9), a)}
}

func TestP4_1Malformed(t *testing.T) {
	for _, o := range badNodes() {
		checked(t, "a bad node", o, api.ErrForm)
		checked(t, "a bad first kid", then(o, anyGap(), visit("a")), api.ErrForm)
		checked(t, "a bad second kid", either(visit("a"), o), api.ErrForm)
		checked(t, "a bad node far below", within(times(1, 2, anyGap(), either(visit("a"), within(o, 5))), 5), api.ErrForm)
	}
	foreign := map[string]struct {
		kinds  []int // that have the field
		change func(o *api.Order)
	}{
		"names":   {[]int{api.OrVisit, api.OrEach}, func(o *api.Order) { o.Names = []string{"a"} }},
		"Gap.Lo":  {[]int{api.OrThen, api.OrTimes}, func(o *api.Order) { o.Gap.Lo = 1 }},
		"Gap.Hi":  {[]int{api.OrThen, api.OrTimes}, func(o *api.Order) { o.Gap.Hi = api.MaxGap }},
		"Most":    {[]int{api.OrWithin}, func(o *api.Order) { o.Most = 1 }},
		"no Most": {[]int{api.OrWithin}, func(o *api.Order) { o.Most = -1 }},
		"Lo":      {[]int{api.OrTimes}, func(o *api.Order) { o.Lo = 1 }},
		"Hi":      {[]int{api.OrTimes}, func(o *api.Order) { o.Hi = 1 }},
	}
	for _, o := range goodNodes() {
		for what, x := range foreign {
			if !slices.Contains(x.kinds, o.Kind) {
				checked(t, what, with(o, x.change), api.ErrForm)
			}
		}
	}
}

func TestP4_1Limits(t *testing.T) {
	checked(t, "39 nodes", wide(), api.OK)
	checked(t, "40 nodes", within(wide(), 5), api.OK)
	checked(t, "41 nodes", within(within(wide(), 5), 5), api.ErrLimit)
	checked(t, "10 nodes on a path", deep(10), api.OK)
	checked(t, "11 nodes on a path", deep(11), api.ErrLimit)
	checked(t, "11 nodes on one path of many", either(either(visit("a"), visit("b")), deep(10)), api.ErrLimit)
	checked(t, "8 names", thens(letters(8)...), api.OK)
	checked(t, "8 names, each twice", thens(append(letters(8), letters(8)...)...), api.OK)
	checked(t, "9 names", thens(letters(9)...), api.ErrLimit)
	checked(t, "9 names in OrEach", then(each("a", "b", "c", "d"), anyGap(), then(each("e", "f", "g", "h"), anyGap(), each("a", "i"))), api.ErrLimit)
	checked(t, "8 names in OrEach", then(each("a", "b", "c", "d"), anyGap(), then(each("e", "f", "g", "h"), anyGap(), each("a", "h"))), api.OK)
	thirty := times(1, 5, anyGap(), within(times(1, 3, anyGap(), each("a", "b")), 9))
	checked(t, "a spread of 30", thirty, api.OK)
	checked(t, "a spread of 31", either(thirty, visit("a")), api.ErrLimit)
	checked(t, "a spread of 31", then(visit("a"), anyGap(), thirty), api.ErrLimit)
	checked(t, "a spread of 36", times(1, 6, anyGap(), times(1, 3, anyGap(), each("a", "b"))), api.ErrLimit)
	checked(t, "a spread of 30, for Lo does not count", times(5, 5, anyGap(), times(6, 6, anyGap(), visit("a"))), api.OK)
	vast := visit("a")
	for range api.MaxDepth - 1 {
		vast = times(6, 6, anyGap(), vast)
	}
	checked(t, "a spread of many millions", vast, api.ErrLimit)
}

// TestP4_1Precedence checks the order of the errors.
func TestP4_1Precedence(t *testing.T) {
	bad := visit("A")
	many := then(thens(letters(9)...), anyGap(), bad)
	checked(t, "9 names and a bad one", many, api.ErrForm)
	checked(t, "a bad node and a great spread", either(times(6, 6, anyGap(), times(6, 6, anyGap(), visit("a"))), bad), api.ErrForm)
	checked(t, "a bad node far below", within(with(deep(9), func(o *api.Order) { o.Most = -1 }), 5), api.ErrForm)
	checked(t, "bad nodes on a path of 11", with(deep(11), func(o *api.Order) { o.Kind, o.Most = 99, -5 }), api.ErrLimit)
	checked(t, "a bad leaf on a path of 11", within(within(within(within(within(within(within(within(within(within(bad, 5), 5), 5), 5), 5), 5), 5), 5), 5), 5), api.ErrLimit)
	checked(t, "41 kids of a visit", api.Order{Kind: api.OrVisit, Kids: make([]api.Order, 41)}, api.ErrLimit)
	checked(t, "40 kids of a visit", api.Order{Kind: api.OrVisit, Kids: make([]api.Order, 40)}, api.ErrLimit)
	checked(t, "39 kids of a visit", api.Order{Kind: api.OrVisit, Kids: make([]api.Order, 39)}, api.ErrForm)
	checked(t, "very many kids", api.Order{Kids: make([]api.Order, 1<<20)}, api.ErrLimit)
	checked(t, "very many names", api.Order{Kind: api.OrEach, Names: make([]string, 1<<20)}, api.ErrForm)
}

// endless returns orders with more nodes than anybody can look at.
func endless() []api.Order {
	self := make([]api.Order, 1)
	self[0] = api.Order{Kind: api.OrWithin, Kids: self}
	both := make([]api.Order, 2)
	both[0], both[1] = api.Order{Kind: api.OrEither, Kids: both}, api.Order{Kind: api.OrThen, Kids: both}
	twice := visit("a")
	for range 60 {
		twice = either(twice, twice)
	}
	long := visit("a")
	for range 100000 {
		long = within(long, 5)
	}
	return []api.Order{self[0], both[1], twice, long}
}

func TestP4_1Endless(t *testing.T) {
	for _, o := range endless() {
		checked(t, "endless", o, api.ErrLimit)
	}
}

// outcome is what a call returned: its error, and whether all other results were zero.
type outcome struct {
	e    api.Errno
	zero bool
}

// calls returns the outcome of each function but Check that takes one order.
func calls(o api.Order, names []string, v []api.Visit, p []api.Piece, n int) map[string]outcome {
	m := map[string]outcome{}
	put := func(name string, e api.Errno, zero bool) { m[name] = outcome{e, zero} }
	text, e := order.Print(o)
	put("Print", e, text == "")
	l, e := order.Names(o)
	put("Names", e, len(l) == 0)
	lo, hi, e := order.Lengths(o)
	put("Lengths", e, lo == 0 && hi == 0)
	other, e := order.Mirror(o)
	put("Mirror", e, isEqual(other, api.Order{}))
	is, e := order.Matches(o, v)
	put("Matches", e, !is)
	pieces, e := order.Explain(o, v)
	put("Explain", e, len(pieces) == 0)
	put("CheckExplain", order.CheckExplain(o, v, p), true)
	d, e := order.Demands(o, names)
	put("Demands", e, len(d) == 0)
	is, e = order.Accepts(o, names)
	put("Accepts", e, !is)
	a, e := order.Automaton(o)
	put("Automaton", e, isSameAutomaton(a, api.Automaton{}))
	l, e = order.Least(o)
	put("Least", e, len(l) == 0)
	many, e := order.Count(o, n)
	put("Count", e, many == 0)
	l, e = order.Next(o, names)
	put("Next", e, len(l) == 0)
	l, e = order.Needed(o)
	put("Needed", e, len(l) == 0)
	return m
}

// comparisons returns the outcomes of the functions that take two orders.
func comparisons(a, b api.Order) map[string]outcome {
	m := map[string]outcome{}
	l, is, e := order.Same(a, b)
	m["Same"] = outcome{e, len(l) == 0 && !is}
	l, is, e = order.Implies(a, b)
	m["Implies"] = outcome{e, len(l) == 0 && !is}
	return m
}

// expect checks that all outcomes have an error, and nothing else.
func expect(t *testing.T, what string, m map[string]outcome, want api.Errno) {
	t.Helper()
	for name, x := range m {
		if x.e != want || want != api.OK && !x.zero {
			t.Errorf("%s: %s: %v, not %d", what, name, x, want)
		}
	}
}

// TestP4_1First checks that all functions return the error of Check before every other one.
func TestP4_1First(t *testing.T) {
	good, right := parsed(t, exampleSource), visits("gate", 0, "mill", 100, "dock", 200)
	pieces, _ := order.Explain(good, right)
	expect(t, "right", calls(good, words("gate mill dock"), right, pieces, 3), api.OK)
	expect(t, "right", comparisons(good, good), api.OK)
	bad := map[api.Errno][]api.Order{
		api.ErrForm:  {{}, visit(""), each("a", "a"), then(visit("a"), span(5, 4), visit("b"))},
		api.ErrLimit: append(endless(), thens(letters(9)...), deep(11), times(6, 6, anyGap(), times(6, 6, anyGap(), visit("then")))),
	}
	for e, l := range bad {
		for _, o := range l {
			expect(t, "a bad order", calls(o, words("gate mill dock"), right, pieces, 3), e)
			expect(t, "nothing is right", calls(o, make([]string, 31), make([]api.Visit, 31), make([]api.Piece, 301), -1), e)
			expect(t, "a bad time", calls(o, nil, visits("a", -1), nil, 21), e)
			expect(t, "the first one", comparisons(o, good), e)
			expect(t, "the second one", comparisons(good, o), e)
			for f, others := range bad {
				expect(t, "the first one of both", comparisons(o, others[0]), e)
				expect(t, "the first one of both", comparisons(others[0], o), f)
			}
		}
	}
}
