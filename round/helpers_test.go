package round_test

import (
	"slices"
	"testing"

	"patrol/api"
	"patrol/order"
)

const (
	maxInt = 1<<63 - 1
	minInt = -1 << 63
)

// chance is a generator of numbers that are the same in each run.
type chance uint64

// n returns a number from 0 to limit - 1.
func (c *chance) n(limit int) int {
	*c = *c*6364136223846793005 + 1442695040888963407
	return int(uint64(*c)>>33) % limit
}

// from returns a number from lo to hi.
func (c *chance) from(lo, hi int) int { return lo + c.n(hi-lo+1) }

func (c *chance) pick(l ...int) int { return l[c.n(len(l))] }

func span(lo, hi int) api.Span { return api.Span{Lo: lo, Hi: hi} }

func arc(from, length int) api.Arc { return api.Arc{From: from, Len: length} }

// reads returns a list of reads of some numbers, a mark and a station for each.
func reads(l ...int) []api.Read {
	var r []api.Read
	for k := 0; k < len(l); k += 2 {
		r = append(r, api.Read{Mark: l[k], Station: l[k+1]})
	}
	return r
}

// raises returns a list of raises of some numbers, a visit, a reason and a time for each.
func raises(l ...int) []api.Raise {
	var r []api.Raise
	for k := 0; k < len(l); k += 3 {
		r = append(r, api.Raise{Visit: l[k], By: l[k+1], To: l[k+2]})
	}
	return r
}

// sourced returns the order of a source that has one.
func sourced(source string) api.Order {
	o, e, _ := order.Parse(source)
	if e != api.OK {
		panic("no order: " + source)
	}
	return o
}

// textOf returns the text of an order.
func textOf(o api.Order) string {
	text, _ := order.Print(o)
	return text
}

// exampleHouse is the house of the examples of layer 3.
func exampleHouse() api.House {
	return api.House{
		Rooms: []api.Room{{Name: "gate"}, {Name: "mill"}, {Name: "loft", Floor: 1}},
		Doors: []api.Door{{Hours: []api.Span{span(21600, 64800)}}},
		Ways:  []api.Way{{A: 0, B: 1, Secs: 60, Back: 60, Door: -1}, {A: 1, B: 2, Secs: 30, Back: 0, Door: 0}},
	}
}

// exampleSession is the session of the chapter's examples.
func exampleSession() api.Session {
	return api.Session{ID: 1, In: span(30000, 30000), Out: span(39000, 41000), Zero: span(0, 0), End: span(9000, 11000), Rate: span(api.Million, api.Million)}
}

// exampleCase is the case c of the chapter's examples.
func exampleCase() api.Case {
	return api.Case{
		House:    exampleHouse(),
		Session:  exampleSession(),
		Keys:     []api.Key{{ID: 1, Pattern: 7}, {ID: 2, Pattern: 56}, {ID: 3, Pattern: 448}},
		Stations: []api.Station{{Name: "gate", Key: 1, Room: 0}, {Name: "mill", Key: 2, Room: 1}, {Name: "loft", Key: 3, Room: 2}},
		Marks:    []api.Mark{{At: arc(1000, 0), Seen: 7, Blank: 4088}, {At: arc(1100, 0), Blank: 7}, {At: arc(1200, 0), Seen: 448, Blank: 63}},
		Since:    30000,
		Order:    sourced("gate then mill then loft"),
	}
}

// with returns the example's case, changed.
func with(changes ...func(c *api.Case)) api.Case {
	c := exampleCase()
	for _, change := range changes {
		change(&c)
	}
	return c
}

// ordered returns the example's case with another order.
func ordered(source string) api.Case {
	return with(func(c *api.Case) { c.Order = sourced(source) })
}

// seen is what a second reader saw in the mark 1 of the example.
func seen() api.Mark { return api.Mark{At: arc(1100, 0), Seen: 8} }

func copyOfOrder(o api.Order) api.Order {
	o.Names, o.Kids = slices.Clone(o.Names), slices.Clone(o.Kids)
	for k, kid := range o.Kids {
		o.Kids[k] = copyOfOrder(kid)
	}
	return o
}

// copyOf returns a case with memory of its own.
func copyOf(c api.Case) api.Case {
	h := &c.House
	h.Rooms, h.Doors, h.Ways = slices.Clone(h.Rooms), slices.Clone(h.Doors), slices.Clone(h.Ways)
	for k, d := range h.Doors {
		h.Doors[k] = api.Door{Hours: slices.Clone(d.Hours), Shut: slices.Clone(d.Shut)}
	}
	c.Session.Stops = slices.Clone(c.Session.Stops)
	c.Keys, c.Stations, c.Marks = slices.Clone(c.Keys), slices.Clone(c.Stations), slices.Clone(c.Marks)
	c.Order = copyOfOrder(c.Order)
	return c
}

func isSameOrder(a, b api.Order) bool {
	return a.Kind == b.Kind && a.Gap == b.Gap && a.Most == b.Most && a.Lo == b.Lo && a.Hi == b.Hi && slices.Equal(a.Names, b.Names) && slices.EqualFunc(a.Kids, b.Kids, isSameOrder)
}

func isSameHouse(a, b api.House) bool {
	return slices.Equal(a.Rooms, b.Rooms) && slices.Equal(a.Ways, b.Ways) && slices.EqualFunc(a.Doors, b.Doors, func(x, y api.Door) bool {
		return slices.Equal(x.Hours, y.Hours) && slices.Equal(x.Shut, y.Shut)
	})
}

func isSameSession(a, b api.Session) bool {
	return a.ID == b.ID && a.In == b.In && a.Out == b.Out && a.Zero == b.Zero && a.End == b.End && a.Rate == b.Rate && slices.Equal(a.Stops, b.Stops)
}

func isSameCase(a, b api.Case) bool {
	return isSameHouse(a.House, b.House) && isSameSession(a.Session, b.Session) && a.Ink == b.Ink && slices.Equal(a.Keys, b.Keys) &&
		slices.Equal(a.Stations, b.Stations) && slices.Equal(a.Marks, b.Marks) && a.Start == b.Start && a.Since == b.Since && isSameOrder(a.Order, b.Order)
}

func sameCase(t *testing.T, what string, got, want api.Case) {
	t.Helper()
	if !isSameCase(got, want) {
		t.Errorf("%s: %v, not %v", what, got, want)
	}
}

// same checks a list, and that there is no error.
func same[T comparable](t *testing.T, what string, got []T, e api.Errno, want ...T) {
	t.Helper()
	if !slices.Equal(got, want) || e != api.OK {
		t.Errorf("%s: %v %d, not %v", what, got, e, want)
	}
}

// isRecord reports whether two records are equal.
func isRecord(a, b api.Record) bool {
	return isSameSession(a.Session, b.Session) && slices.Equal(a.Strikes, b.Strikes) && slices.Equal(a.Sights, b.Sights)
}
