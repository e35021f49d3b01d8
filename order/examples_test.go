package order_test

import (
	"testing"

	"patrol/api"
	"patrol/order"
)

// TestExamples has the examples of the chapter.
func TestExamples(t *testing.T) {
	o, e := parsed(t, exampleSource), parsed(t, "each(a, b) then c")
	printed(t, o, exampleSource)
	for _, x := range []struct {
		l    []api.Visit
		want bool
	}{{visits("gate", 0, "mill", 100, "dock", 200), true}, {visits("gate", 0, "mill", 59, "dock", 200), false}} {
		if is, f := order.Matches(o, x.l); is != x.want || f != api.OK {
			t.Error("Matches", x.l, is, f)
		}
	}
	sameDemands(t, "gate mill dock", demanded(t, o, "gate", "mill", "dock"), demands(links(0, 1, 600, 1, 0, -60)))
	if lo, hi, f := order.Lengths(o); lo != 3 || hi != 4 || f != api.OK {
		t.Error("Lengths", lo, hi, f)
	}
	l, f := order.Names(o)
	same(t, "Names", l, words("dock gate loft mill"), f)
	for _, n := range []int{3, 4} {
		if many, f := order.Count(o, n); many != 2 || f != api.OK {
			t.Error("Count", n, many, f)
		}
	}
	a, f := order.Automaton(o)
	if len(a.Final) != 5 || f != api.OK {
		t.Error("Automaton", a, f)
	}
	same(t, "Next of the state 0", a.Next[0], []int{-1, 1, -1, -1}, f)
	l, f = order.Next(o, words("gate"))
	same(t, "Next", l, words("loft mill"), f)
	l, f = order.Needed(o)
	same(t, "Needed", l, words("dock gate"), f)
	l, f = order.Least(o)
	same(t, "Least", l, words("gate loft dock"), f)
	other := parsed(t, "(a or b) then (a or b) then c")
	l, is, f := order.Implies(e, other)
	same(t, "Implies", l, nil, f)
	if !is {
		t.Error("Implies", is)
	}
	l, is, f = order.Implies(other, e)
	same(t, "Implies", l, words("a a c"), f)
	if is {
		t.Error("Implies", is)
	}
	m, f := order.Mirror(e)
	printed(t, m, "c then each(a, b)")
	if f != api.OK {
		t.Error("Mirror", f)
	}
	malformed(t, "a then then b", 7)
	malformed(t, "a within 086", 9)
	malformed(t, "a ; b", 2)
	sameDemands(t, "a b", demanded(t, parsed(t, "(a then b) within 5 or (a then after 3 to 9 b)"), "a", "b"), demands(links(0, 1, 5), links(0, 1, 9, 1, 0, -3)))
}

// TestExampleOfTheWhole is the fourth example of DOC.md.
func TestExampleOfTheWhole(t *testing.T) {
	l := visits("gate", 31000, "mill", 31100, "loft", 31200)
	for source, want := range map[string]bool{"gate then mill then loft": true, "gate then after 60 to 90 mill then loft": false} {
		if is, e := order.Matches(parsed(t, source), l); is != want || e != api.OK {
			t.Error("Matches", source, is, e)
		}
	}
}
