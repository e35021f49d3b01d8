package round_test

import (
	"slices"
	"testing"

	"patrol/api"
	"patrol/round"
)

// roomy returns a copy of a list with room and other elements behind its end.
func roomy[T any](l []T, behind T) []T {
	return append(slices.Clone(l), behind, behind, behind)[:len(l)]
}

// whole returns a copy of a list with what lies behind its end.
func whole[T any](l []T) []T { return slices.Clone(l[:cap(l)]) }

// overwrite changes a list, up to its capacity.
func overwrite[T any](l []T, x T) {
	l = l[:cap(l)]
	for k := range l {
		l[k] = x
	}
}

// memoryCase is a case of which each list has elements, and of which some functions have long results.
func memoryCase() api.Case {
	c := exampleCase()
	c.House.Doors = append(c.House.Doors, api.Door{Hours: []api.Span{span(5, 9), span(20, 30)}, Shut: []api.Span{span(7, 7), span(40, 50)}})
	c.House.Doors[0].Shut = []api.Span{span(22000, 22100)}
	c.Session.Stops = []api.Stop{{At: 5000, Secs: span(1, 2)}, {At: 6000, Secs: span(1, 2)}}
	c.Order = sourced("each(gate, mill) then loft or gate then mill then loft")
	return c
}

// roomyOrder returns a copy of an order whose lists have other elements behind their ends, wholeOrder one with these elements.
func roomyOrder(o api.Order) api.Order {
	o.Names, o.Kids = roomy(o.Names, "behind"), roomy(o.Kids, api.Order{Kind: 77})
	for k, kid := range o.Kids {
		o.Kids[k] = roomyOrder(kid)
	}
	return o
}
func wholeOrder(o api.Order) api.Order {
	o.Names, o.Kids = whole(o.Names), whole(o.Kids)
	for k, kid := range o.Kids {
		o.Kids[k] = wholeOrder(kid)
	}
	return o
}

// roomyCase returns a copy of a case whose lists have other elements behind their ends, wholeCase one with these elements.
func roomyCase(c api.Case) api.Case {
	h := &c.House
	h.Rooms, h.Ways = roomy(h.Rooms, api.Room{Name: "behind"}), roomy(h.Ways, api.Way{A: 99})
	h.Doors = roomy(h.Doors, api.Door{Hours: []api.Span{span(66, 66)}})
	for k, d := range h.Doors {
		h.Doors[k] = api.Door{Hours: roomy(d.Hours, span(77, 77)), Shut: roomy(d.Shut, span(88, 88))}
	}
	c.Session.Stops = roomy(c.Session.Stops, api.Stop{At: 99})
	c.Keys, c.Stations = roomy(c.Keys, api.Key{ID: 99}), roomy(c.Stations, api.Station{Name: "behind"})
	c.Marks, c.Order = roomy(c.Marks, api.Mark{Track: 99}), roomyOrder(c.Order)
	return c
}
func wholeCase(c api.Case) api.Case {
	h := &c.House
	h.Rooms, h.Ways, h.Doors = whole(h.Rooms), whole(h.Ways), whole(h.Doors)
	for k, d := range h.Doors {
		h.Doors[k] = api.Door{Hours: whole(d.Hours), Shut: whole(d.Shut)}
	}
	c.Session.Stops = whole(c.Session.Stops)
	c.Keys, c.Stations = whole(c.Keys), whole(c.Stations)
	c.Marks, c.Order = whole(c.Marks), wholeOrder(c.Order)
	return c
}

// wholeLists returns the lists of a list with what lies behind their ends, and behind its own.
func wholeLists[T any](l [][]T) [][]T {
	l = whole(l)
	for k := range l {
		l[k] = whole(l[k])
	}
	return l
}

// TestR6Arguments checks that arguments stay as they were, also behind their ends.
func TestR6Arguments(t *testing.T) {
	for _, start := range []int{0, 2} { // in the loft, all stations are missed
		plain := memoryCase()
		plain.Start = start
		c, x := roomyCase(plain), rightArgs()
		x.all, _ = round.Miss(c, 1)
		x.l, x.p, x.marks = roomy(x.l, api.Read{Mark: 77}), roomy(x.p, api.Raise{Visit: 77}), roomy([]int{2, 0, 2}, 77)
		x.r = api.Reading{Reads: roomy(x.r.Reads, api.Read{Mark: 77}), Times: roomy(x.r.Times, 77)}
		for k, p := range x.all {
			x.all[k] = roomy(p, api.Raise{Visit: 77})
		}
		x.all = roomy(x.all, raises(77, 77, 77))
		before, list, proof, marks, all := wholeCase(c), whole(x.l), whole(x.p), whole(x.marks), wholeLists(x.all)
		read, times := whole(x.r.Reads), whole(x.r.Times)
		calls(c, x)
		round.Check(c)
		sameCase(t, "the case, behind its ends", wholeCase(c), before)
		sameCase(t, "the case", c, plain)
		same(t, "the list", whole(x.l), api.OK, list...)
		same(t, "the reads", whole(x.r.Reads), api.OK, read...)
		same(t, "the times", whole(x.r.Times), api.OK, times...)
		same(t, "the refutation", whole(x.p), api.OK, proof...)
		same(t, "the marks", whole(x.marks), api.OK, marks...)
		if !slices.EqualFunc(wholeLists(x.all), all, slices.Equal) {
			t.Error("the refutations", x.all, all)
		}
	}
}

// overwriteOrder changes all lists of an order, from the innermost ones on.
func overwriteOrder(o api.Order) {
	for _, kid := range o.Kids {
		overwriteOrder(kid)
	}
	overwrite(o.Names, "over")
	overwrite(o.Kids, api.Order{Kind: 66})
}

// overwriters returns a function for each list of a case, which overwrites it; the innermost ones come first.
func overwriters(c api.Case) []func() {
	var l []func()
	for _, d := range c.House.Doors {
		l = append(l, func() { overwrite(d.Hours, span(-7, -7)) }, func() { overwrite(d.Shut, span(-7, -7)) })
	}
	return append(l,
		func() { overwrite(c.House.Doors, api.Door{}) },
		func() { overwrite(c.House.Rooms, api.Room{Name: "over"}) },
		func() { overwrite(c.House.Ways, api.Way{A: -7}) },
		func() { overwrite(c.Session.Stops, api.Stop{At: -7}) },
		func() { overwrite(c.Keys, api.Key{ID: -7}) },
		func() { overwrite(c.Stations, api.Station{Key: -7}) },
		func() { overwrite(c.Marks, api.Mark{Track: -7}) },
		func() { overwriteOrder(c.Order) },
	)
}

// countSame counts in how many of their parts two cases are equal; each list that overwriters overwrites is one.
func countSame(a, b api.Case) int {
	n := 0
	count := func(is bool) {
		if is {
			n++
		}
	}
	for k := range min(len(a.House.Doors), len(b.House.Doors)) {
		count(slices.Equal(a.House.Doors[k].Hours, b.House.Doors[k].Hours))
		count(slices.Equal(a.House.Doors[k].Shut, b.House.Doors[k].Shut))
	}
	count(slices.Equal(a.House.Rooms, b.House.Rooms))
	count(slices.Equal(a.House.Ways, b.House.Ways))
	count(slices.Equal(a.Session.Stops, b.Session.Stops))
	count(slices.Equal(a.Keys, b.Keys))
	count(slices.Equal(a.Stations, b.Stations))
	count(slices.Equal(a.Marks, b.Marks))
	count(isSameOrder(a.Order, b.Order))
	return n
}

// TestR6Cases checks that the cases that Sharper and Without return share nothing with the one they are made of, nor do their lists with each other.
func TestR6Cases(t *testing.T) {
	for what, change := range map[string]func(c api.Case) (api.Case, api.Errno){
		"Sharper":        func(c api.Case) (api.Case, api.Errno) { return round.Sharper(c, 1, seen()) },
		"Without one":    func(c api.Case) (api.Case, api.Errno) { return round.Without(c, []int{1}) },
		"Without none":   func(c api.Case) (api.Case, api.Errno) { return round.Without(c, nil) },
		"Without others": func(c api.Case) (api.Case, api.Errno) { return round.Without(c, []int{7, 2, 0}) },
	} {
		want, e := change(memoryCase())
		if e != api.OK {
			t.Error(what, e)
		}
		for k := range overwriters(want) {
			c := roomyCase(memoryCase())
			got, _ := change(c)
			overwriters(c)[k]()
			sameCase(t, what+": the result", got, want)
			c = roomyCase(memoryCase())
			before := wholeCase(c)
			got, _ = change(c)
			overwriters(got)[k]()
			sameCase(t, what+": the argument, behind its ends", wholeCase(c), before)
			// The list of the doors has the lists of each one.
			if n, all := countSame(got, want), countSame(want, want); n < all-1 && k != 2*len(want.House.Doors) {
				t.Error(what, "lists that share memory:", k, n, all)
			}
		}
	}
}

// allNames returns the lists of names of an order.
func allNames(o api.Order) [][]string {
	l := [][]string{o.Names}
	for _, kid := range o.Kids {
		l = append(l, allNames(kid)...)
	}
	return l
}

// TestR6Orders checks that no two lists of names of the order of a result share memory.
func TestR6Orders(t *testing.T) {
	got, e := round.Without(memoryCase(), nil)
	want := allNames(memoryCase().Order)
	if e != api.OK || len(want) < 8 {
		t.Fatal(e, want)
	}
	for k, l := range allNames(got.Order) {
		same(t, "names", l, api.OK, want[k]...)
		overwrite(l, "over")
	}
}

// lists returns the lists that some functions return for a case.
func lists(c api.Case) (ints [][]int, reads [][]api.Read, raises [][]api.Raise) {
	ints, _ = round.Reads(c, 1)
	all, _ := round.Sequences(c)
	for _, l := range all {
		first, _ := round.First(c, l)
		last, _ := round.Last(c, l)
		ints = append(ints, first, last)
		p, _ := round.Refute(c, l)
		raises = append(raises, p)
	}
	some, _ := round.Some(c)
	other, _ := round.Other(c)
	visited, _ := round.Visited(c)
	missed, _ := round.Missed(c)
	repair, _ := round.Repair(c, 2)
	ints = append(ints, some.Times, other.Times, visited, missed, repair)
	for k := range c.Stations {
		p, _ := round.Miss(c, k)
		raises = append(raises, p...)
	}
	return ints, append(all, some.Reads, other.Reads), raises
}

// separate checks that lists are some others, and stay so while one after the other is overwritten.
func separate[T comparable](t *testing.T, what string, got, want [][]T, x T) {
	t.Helper()
	if len(got) != len(want) {
		t.Error(what, got, want)
		return
	}
	for k, l := range got {
		same(t, what, l, api.OK, want[k]...)
		overwrite(l, x)
	}
}

// TestR6Results overwrites results, one after the other: no other result, and no later call may change.
func TestR6Results(t *testing.T) {
	for _, c := range []api.Case{memoryCase(), with(func(c *api.Case) { c.Start = 2 }), ordered("gate then loft"), with(func(c *api.Case) { c.Marks = c.Marks[:2] })} {
		before := copyOf(c)
		ints, reads, raises := lists(c)
		for range 2 {
			i, l, p := lists(c)
			separate(t, "numbers", i, ints, -7)
			separate(t, "reads", l, reads, api.Read{Mark: -7})
			separate(t, "raises", p, raises, api.Raise{Visit: -7})
			sameCase(t, "the case", c, before)
		}
	}
	c := memoryCase()
	r, _ := round.Record(c, reads(0, 0, 1, 1, 2, 2))
	overwrite(r.Session.Stops, api.Stop{At: -7})
	overwrite(r.Strikes, api.Strike{ID: -7})
	sameCase(t, "the case of a record", c, memoryCase())
	if again, e := round.Record(c, reads(0, 0, 1, 1, 2, 2)); e != api.OK || !isRecord(again, definedRecord(c, reads(0, 0, 1, 1, 2, 2))) {
		t.Error("Record once more", again, e)
	}
}
