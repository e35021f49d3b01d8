package custody_test

import (
	"testing"

	"patrol/api"
	"patrol/custody"
)

func TestExamplesOfHistories(t *testing.T) {
	c := exampleBook()
	if e := custody.CheckHistory(c, 7, moves(1, 100, 2, 400, 3, 400, 4, 900)); e != api.OK {
		t.Error("CheckHistory", e)
	}
	if l, e := custody.History(c, 7); !isHistory(c, 7, l) || e != api.OK {
		t.Error("History", l, e)
	}
	for at, want := range map[int][]int{99: {0}, 150: {0, 1}, 500: {1, 2}, 899: {2}, 900: {0}} {
		l, e := custody.Holders(c, 7, at)
		same(t, "Holders", l, want, e)
	}
	for at, want := range map[int][]int{399: nil, 400: {2}, 1000: {2}} {
		l, e := custody.Copiers(c, 7, at)
		same(t, "Copiers", l, want, e)
	}
	for s, want := range map[api.Span][]int{span(0, 2000): {1, 2}, span(950, 990): {2}} {
		l, e := custody.Hands(c, 7, s)
		same(t, "Hands", l, want, e)
	}
	for id, want := range map[int]api.Span{3: span(400, 700), 2: span(400, 600)} {
		if s, e := custody.When(c, id); s != want || e != api.OK {
			t.Error("When", id, s, e)
		}
	}
}

func TestExamplesOfUses(t *testing.T) {
	c := exampleBook()
	fits(t, c, uses(use(7, 1, 599), use(7, 2, 600)), true)
	fits(t, c, uses(use(7, 1, 600)), false)
	l, e := custody.Men(c, uses(use(7, 0, 550), use(7, 0, 950)))
	same(t, "Men", l, []int{2}, e)
	c, e = custody.With(c, pass(5, 7, 1, 0, 800, 850))
	if e != api.OK {
		t.Error("With", e)
	}
	l, e = custody.Suspects(c, 7)
	same(t, "Suspects", l, []int{5}, e)
	if n, e := custody.Needed(c, 7); n != 2 || e != api.OK {
		t.Error("Needed", n, e)
	}
	textual(t, exampleBook(), exampleText) // with the line of the entry 3
}

// TestExampleOfTheWhole is the seventh example of DOC.md, with the second mark from 31099 to 31101.
func TestExampleOfTheWhole(t *testing.T) {
	c := api.Custody{People: []api.Person{person(8, span(0, api.MaxTime)), person(9, span(0, api.MaxTime))}, Keys: []int{1, 2, 3}, Entries: []api.Entry{pass(1, 2, 0, 9, 30000, 31000)}}
	l, e := custody.Hands(c, 2, span(31099, 31101))
	same(t, "Hands", l, []int{9}, e)
	l, e = custody.Hands(c, 3, span(31099, 31101))
	same(t, "Hands", l, nil, e)
	l, e = custody.Men(c, uses(use(2, 0, 31100)))
	same(t, "Men", l, []int{9}, e)
}
