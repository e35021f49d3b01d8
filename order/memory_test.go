package order_test

import (
	"slices"
	"testing"

	"patrol/api"
	"patrol/order"
)

// roomy returns a list with room and other elements behind its end, and all of it.
func roomy[T any](l []T, behind T) (list, all []T) {
	all = append(slices.Clone(l), behind, behind, behind)
	return all[:len(l)], all
}

// roomyOrder returns an order whose lists all have room behind their ends, and these lists with what lies behind.
func roomyOrder(o api.Order) (api.Order, func() (names [][]string, kids [][]api.Order)) {
	var allNames [][]string
	var allKids [][]api.Order
	var make func(o api.Order) api.Order
	make = func(o api.Order) api.Order {
		kids := slices.Clone(o.Kids)
		for k, kid := range kids {
			kids[k] = make(kid)
		}
		var names []string
		var nodes []api.Order
		o.Names, names = roomy(o.Names, "behind")
		o.Kids, nodes = roomy(kids, visit("behind"))
		allNames, allKids = append(allNames, names), append(allKids, nodes)
		return o
	}
	return make(o), func() ([][]string, [][]api.Order) { return allNames, allKids }
}

// overwrite changes a list, up to its capacity.
func overwrite[T any](l []T, x T) {
	l = l[:cap(l)]
	for k := range l {
		l[k] = x
	}
}

// overwriteOrder changes all lists of an order, from the innermost ones on.
func overwriteOrder(o api.Order) {
	for _, kid := range o.Kids[:cap(o.Kids)] {
		overwriteOrder(kid)
	}
	overwrite(o.Kids, api.Order{Kind: -7})
	overwrite(o.Names, "over")
}

// memorySource has a node of each kind, and several demands for the names with which it is tested.
const memorySource = "each(b, a) then after 1 to 9 (times 1 to 2 after 1 to 5 c or (c then c) within 4)"

// TestR6Arguments checks that arguments stay as they were, also behind their ends.
func TestR6Arguments(t *testing.T) {
	plain := parsed(t, memorySource)
	o, behind := roomyOrder(plain)
	other, behindOther := roomyOrder(parsed(t, exampleSource))
	l, allVisits := roomy(visits("a", 0, "b", 1, "c", 3, "c", 5), api.Visit{Name: "behind"})
	names, allNames := roomy(words("a b c c"), "behind")
	times, allTimes := roomy([]int{0, 1, 3, 5}, -7)
	wasVisits, wasNames, wasTimes := slices.Clone(allVisits), slices.Clone(allNames), slices.Clone(allTimes)
	p, _ := order.Explain(plain, l)
	p, allPieces := roomy(p, api.Piece{Node: -7})
	wasPieces := slices.Clone(allPieces)
	for range 2 {
		expect(t, "right", calls(o, names, l, p, 4), api.OK)
		expect(t, "right", comparisons(o, other), api.OK)
	}
	d, e := order.Demands(o, names)
	for _, x := range d {
		links, all := roomy(x.Links, api.Link{From: -7})
		was := slices.Clone(all)
		if _, e := order.Fulfils(api.Demand{Links: links}, times); e != api.OK {
			t.Error("Fulfils", e)
		}
		same(t, "the links", all, was, api.OK)
	}
	a, f := order.Automaton(o)
	if _, g := order.Follow(a, names); g != api.OK || e != api.OK || f != api.OK {
		t.Error(e, f, g)
	}
	same(t, "the visits", allVisits, wasVisits, api.OK)
	same(t, "the names", allNames, wasNames, api.OK)
	same(t, "the times", allTimes, wasTimes, api.OK)
	same(t, "the pieces", allPieces, wasPieces, api.OK)
	if !isEqual(o, plain) || !isEqual(other, parsed(t, exampleSource)) {
		t.Error("the orders:", o, other)
	}
	for _, behind := range []func() ([][]string, [][]api.Order){behind, behindOther} {
		names, kids := behind()
		for k := range names {
			same(t, "behind the names of a node", names[k][len(names[k])-3:], words("behind behind behind"), api.OK)
			for _, x := range kids[k][len(kids[k])-3:] {
				if !isEqual(x, visit("behind")) {
					t.Error("behind the kids of a node:", x)
				}
			}
		}
	}
}

// TestR6Orders checks that the order that Mirror or Parse returns shares nothing with an argument, nor its lists with each other.
func TestR6Orders(t *testing.T) {
	for _, source := range []string{memorySource, exampleSource, "a", "each(b, a)", "times 1 to 2 each(a, b) within 5"} {
		o := parsed(t, source)
		m, e := order.Mirror(o)
		want := copyOf(m)
		overwriteOrder(o)
		if !isEqual(m, want) || e != api.OK {
			t.Error("Mirror", source, m, e)
		}
		o = parsed(t, source)
		m, _ = order.Mirror(o)
		overwriteOrder(m)
		if !isEqual(o, parsed(t, source)) {
			t.Error("the argument of Mirror", source, o)
		}
		// Each list is overwritten alone; no other one may change.
		lists := func() [][]string {
			o, m := parsed(t, source), api.Order{}
			m, _ = order.Mirror(o)
			var l [][]string
			for _, x := range slices.Concat(flat(o), flat(m)) {
				l = append(l, x.Names)
			}
			return l
		}
		want2 := lists()
		for k := range want2 {
			got := lists()
			overwrite(got[k], "over")
			for n := range got {
				if n != k {
					same(t, "the names of another node", got[n], want2[n], api.OK)
				}
			}
		}
	}
}

// apart calls a function that returns several lists, and overwrites each of them alone: no other one, and no later call, may change.
func apart[T comparable](t *testing.T, what string, over T, call func() [][]T) {
	t.Helper()
	want := call()
	keep := make([][]T, len(want))
	for k := range want {
		keep[k] = slices.Clone(want[k])
	}
	for k := range want {
		got := call()
		overwrite(got[k], over)
		for n := range got {
			if n != k {
				same(t, what, got[n], keep[n], api.OK)
			}
		}
	}
	for n, l := range call() {
		same(t, what+", later", l, keep[n], api.OK)
	}
}

// TestR6Results overwrites results.
func TestR6Results(t *testing.T) {
	o, other := parsed(t, memorySource), parsed(t, "each(b, a) then c")
	names := words("a b c c")
	apart(t, "names", "over", func() [][]string {
		a, _ := order.Names(o)
		b, _ := order.Least(o)
		c, _ := order.Needed(o)
		d, _ := order.Next(o, names[:1])
		e, _, _ := order.Same(o, other)
		f, _, _ := order.Implies(o, other)
		g, _ := order.Automaton(o)
		one, two := visit("a"), either(visit("a"), visit("b"))
		h, _ := order.Least(one)
		i, _ := order.Names(two)
		j, _ := order.Least(two)
		return [][]string{a, b, c, d, e, f, g.Names, h, i, j, one.Names, two.Kids[0].Names, two.Kids[1].Names, slices.Clone(o.Kids[0].Names), slices.Clone(names)}
	})
	apart(t, "links", api.Link{From: -7}, func() [][]api.Link {
		d, e := order.Demands(o, names)
		if len(d) != 2 || e != api.OK {
			t.Error("not the right test:", d, e)
		}
		var l [][]api.Link
		for _, x := range d {
			l = append(l, x.Links)
		}
		return l
	})
	apart(t, "rows", -7, func() [][]int {
		a, _ := order.Automaton(o)
		return a.Next
	})
	apart(t, "final", true, func() [][]bool {
		a, _ := order.Automaton(o)
		return [][]bool{a.Final}
	})
	apart(t, "pieces", api.Piece{}, func() [][]api.Piece {
		p, _ := order.Explain(o, visits("a", 0, "b", 1, "c", 3, "c", 5))
		q, _ := order.Explain(o, visits("a", 0, "b", 1, "c", 3, "c", 5))
		return [][]api.Piece{p, q}
	})
}

// TestR7 calls the functions again and again; the results are the same.
func TestR7(t *testing.T) {
	c := chance(7)
	for range 200 {
		o := c.order(c.from(1, 6), c.from(1, 4))
		l := c.visits(o)
		names, _ := split(l)
		p, _ := order.Explain(o, l)
		d, e := order.Demands(o, names)
		a, f := order.Automaton(o)
		for range 3 {
			again, _ := order.Explain(o, l)
			same(t, "Explain", again, p, api.OK)
			moreDemands, g := order.Demands(o, names)
			b, h := order.Automaton(copyOf(o))
			if !isSameDemands(moreDemands, d) || g != e || !isSameAutomaton(a, b) || h != f {
				t.Error("not the same results:", textOf(o), names)
			}
		}
	}
}
