package round_test

import (
	"slices"
	"strings"
	"testing"

	"patrol/api"
	"patrol/round"
)

// fault is a change of the example's case, and the error that it makes.
type fault struct {
	what   string
	change func(c *api.Case)
	e      api.Errno
}

// deep returns an order with n nodes on a path.
func deep(n int) api.Order {
	o := api.Order{Kind: api.OrVisit, Names: []string{"gate"}}
	for range n - 1 {
		o = api.Order{Kind: api.OrWithin, Most: 5, Kids: []api.Order{o}}
	}
	return o
}

// faults returns lists of faults: those of an earlier list are looked for ahead of those of a later one.
func faults() [][]fault {
	at := func(k int, x api.Arc) func(c *api.Case) { return func(c *api.Case) { c.Marks[k].At = x } }
	return [][]fault{{
		{"no rooms", func(c *api.Case) { c.House.Rooms = nil }, api.ErrArg},
		{"too many rooms", func(c *api.Case) { c.House.Rooms = slices.Repeat(c.House.Rooms, 9) }, api.ErrLimit},
		{"two rooms with a name", func(c *api.Case) { c.House.Rooms[2].Name = "gate" }, api.ErrTwice},
		{"hours in no order", func(c *api.Case) { c.House.Doors[0].Hours = []api.Span{span(5, 4)} }, api.ErrArg},
		{"a way to nowhere", func(c *api.Case) { c.House.Ways[0].B = 3 }, api.ErrArg},
	}, {
		{"too many stops", func(c *api.Case) { c.Session.Stops = make([]api.Stop, api.MaxStops+1) }, api.ErrLimit},
		{"no session", func(c *api.Case) { c.Session.ID = 0 }, api.ErrArg},
		{"a wrong rate", func(c *api.Case) { c.Session.Rate = span(1, 1) }, api.ErrArg},
		{"a stop at a wrong place", func(c *api.Case) { c.Session.Stops = []api.Stop{{At: 9000, Secs: span(1, 1)}} }, api.ErrArg},
	}, {
		{"the same key twice", func(c *api.Case) { c.Keys[1].ID = 1 }, api.ErrArg},
		{"keys in no order", func(c *api.Case) { c.Keys[0].ID = 9 }, api.ErrArg},
		{"no key", func(c *api.Case) { c.Keys[2].Pattern = 0 }, api.ErrArg},
		{"too many keys", func(c *api.Case) { c.Keys = slices.Concat(c.Keys, keysFrom(4, api.MaxBunch-2)) }, api.ErrArg},
		{"wrong ink", func(c *api.Case) { c.Ink.Slip = -1 }, api.ErrArg},
		{"wrong ink", func(c *api.Case) { c.Ink.Faint = api.MaxFaint + 1 }, api.ErrArg},
	}, {
		{"too many stations", func(c *api.Case) { c.Stations = make([]api.Station, api.MaxStations+1) }, api.ErrLimit},
	}, {
		{"no name", func(c *api.Case) { c.Stations[0].Name = "" }, api.ErrArg},
		{"a name that is too long", func(c *api.Case) { c.Stations[0].Name = strings.Repeat("a", api.MaxName+1) }, api.ErrArg},
		{"a wrong name", func(c *api.Case) { c.Stations[0].Name = "Gate" }, api.ErrArg},
		{"a wrong name", func(c *api.Case) { c.Stations[0].Name = "g te" }, api.ErrArg},
		{"a key that is not there", func(c *api.Case) { c.Stations[0].Key = 4 }, api.ErrArg},
		{"a key that is not there", func(c *api.Case) { c.Stations[0].Key = 0 }, api.ErrArg},
		{"no room", func(c *api.Case) { c.Stations[0].Room = -1 }, api.ErrArg},
		{"no room", func(c *api.Case) { c.Stations[0].Room = 3 }, api.ErrArg},
	}, {
		{"no room for a station with the name of another one", func(c *api.Case) { c.Stations[1] = api.Station{Name: "gate", Key: 2, Room: 3} }, api.ErrArg},
	}, {
		{"two stations with a name", func(c *api.Case) { c.Stations[1].Name = c.Stations[0].Name }, api.ErrTwice},
		{"two stations with a key", func(c *api.Case) { c.Stations[1].Key = c.Stations[0].Key }, api.ErrTwice},
	}, {
		{"a wrong third station", func(c *api.Case) { c.Stations[2].Room = 3 }, api.ErrArg},
		{"the name of the first station", func(c *api.Case) { c.Stations[2].Name = c.Stations[0].Name }, api.ErrTwice},
		{"the key of the first station", func(c *api.Case) { c.Stations[2].Key = c.Stations[0].Key }, api.ErrTwice},
	}, {
		{"too many marks", func(c *api.Case) { c.Marks = make([]api.Mark, api.MaxStrikes+1) }, api.ErrLimit},
	}, {
		{"an arc that is not valid", at(0, arc(-1, 0)), api.ErrArg},
		{"an arc that is not valid", at(0, arc(1, api.Ring-1)), api.ErrArg},
		{"pins that are seen and blank", func(c *api.Case) { c.Marks[0].Seen = api.AllPins }, api.ErrArg},
		{"no track", func(c *api.Case) { c.Marks[0].Track = api.Tracks }, api.ErrArg},
	}, {
		{"no position", at(0, arc(11001, 0)), api.ErrRange},
		{"two spans of positions", at(0, arc(10000, api.Ring-5000)), api.ErrRange},
	}, {
		{"a wrong second mark", func(c *api.Case) { c.Marks[1].Track = -1 }, api.ErrArg},
	}, {
		{"no position of the last mark", at(2, arc(43199, 0)), api.ErrRange},
	}, {
		{"no room Start", func(c *api.Case) { c.Start = -1 }, api.ErrArg},
		{"no room Start", func(c *api.Case) { c.Start = 3 }, api.ErrArg},
		{"no time Since", func(c *api.Case) { c.Since = -1 }, api.ErrArg},
		{"no time Since", func(c *api.Case) { c.Since = api.Never }, api.ErrArg},
	}, {
		{"no order", func(c *api.Case) { c.Order = api.Order{} }, api.ErrForm},
		{"an order that is too deep", func(c *api.Case) { c.Order = deep(api.MaxDepth + 1) }, api.ErrLimit},
		{"a visit with two names", func(c *api.Case) { c.Order = api.Order{Kind: api.OrVisit, Names: []string{"a", "b"}} }, api.ErrForm},
	}}
}

// keysFrom returns n keys with the IDs from one on.
func keysFrom(id, n int) []api.Key {
	var l []api.Key
	for k := range n {
		l = append(l, api.Key{ID: id + k, Track: 3, Pattern: 1})
	}
	return l
}

func TestP5_1(t *testing.T) {
	if e := round.Check(exampleCase()); e != api.OK {
		t.Error("the example", e)
	}
	if e := round.Check(api.Case{}); e != api.ErrArg {
		t.Error("no case", e)
	}
	for _, l := range faults() {
		for _, x := range l {
			if e := round.Check(with(x.change)); e != x.e {
				t.Error(x.what, e, x.e)
			}
		}
	}
}

// TestP5_1Order lets a case have two faults: the later one is made first, so that it does not hide the earlier one.
func TestP5_1Order(t *testing.T) {
	all := faults()
	for k, l := range all {
		for _, x := range l {
			for _, later := range slices.Concat(all[k+1:]...) {
				c := exampleCase()
				change := func() { later.change(&c); x.change(&c) }
				if !survives(change) {
					continue
				}
				if e := round.Check(c); e != x.e {
					t.Error(x.what, "and", later.what, e, x.e)
				}
			}
		}
	}
}

// survives reports whether a change is possible: a list that one fault has made shorter has no element for another one.
func survives(change func()) (is bool) {
	defer func() { is = recover() == nil }()
	change()
	return true
}

// TestP5_1Limits has cases that are just right.
func TestP5_1Limits(t *testing.T) {
	for what, change := range map[string]func(c *api.Case){
		"no marks":                  func(c *api.Case) { c.Marks = nil },
		"no stations":               func(c *api.Case) { c.Stations = nil },
		"no stations and no keys":   func(c *api.Case) { c.Stations, c.Keys = nil, nil },
		"as many keys as can be":    func(c *api.Case) { c.Keys = slices.Concat(c.Keys, keysFrom(4, api.MaxBunch-3)) },
		"as many marks as can be":   func(c *api.Case) { c.Marks = slices.Repeat(c.Marks[:1], api.MaxStrikes) },
		"a long name":               func(c *api.Case) { c.Stations[1].Name = strings.Repeat("z", api.MaxName) },
		"a short name":              func(c *api.Case) { c.Stations[1].Name = "0" },
		"a reserved name":           func(c *api.Case) { c.Stations[1].Name = "then" },
		"two stations in a room":    func(c *api.Case) { c.Stations[1].Room = 0 },
		"the last room, and time":   func(c *api.Case) { c.Start, c.Since = 2, api.MaxTime },
		"the first room, and time":  func(c *api.Case) { c.Start, c.Since = 0, 0 },
		"keys that can be confused": func(c *api.Case) { c.Keys[1].Pattern = 7 },
		"marks in no order":         func(c *api.Case) { slices.Reverse(c.Marks) },
		"a mark of no key":          func(c *api.Case) { c.Marks[1].Track = 3 },
		"a deep order":              func(c *api.Case) { c.Order = deep(api.MaxDepth) },
		"a name of no station":      func(c *api.Case) { c.Order = sourced("attic") },
		"as many stations as can be": func(c *api.Case) {
			c.Keys = keysFrom(1, api.MaxStations)
			c.Stations = nil
			for k := range api.MaxStations {
				c.Stations = append(c.Stations, api.Station{Name: string(rune('a' + k)), Key: k + 1})
			}
		},
	} {
		if e := round.Check(with(change)); e != api.OK {
			t.Error(what, e)
		}
	}
}

// TestP5_1Strange has numbers that could overflow.
func TestP5_1Strange(t *testing.T) {
	for _, n := range []int{minInt, maxInt} {
		for _, change := range []func(c *api.Case){
			func(c *api.Case) { c.Marks[0].At = arc(n, n) },
			func(c *api.Case) { c.Marks[0].At = arc(0, n) },
			func(c *api.Case) { c.Marks[0].Seen, c.Marks[0].Blank = n, 0 },
			func(c *api.Case) { c.Ink = api.Ink{Faint: n, Stray: n, Slip: n} },
			func(c *api.Case) { c.Session.Zero = span(n, n) },
			func(c *api.Case) { c.Session.End = span(0, n) },
			func(c *api.Case) { c.Stations[1].Room = n },
			func(c *api.Case) { c.Stations[1].Key = n },
			func(c *api.Case) { c.Start = n },
			func(c *api.Case) { c.Since = n },
		} {
			if e := round.Check(with(change)); e != api.ErrArg {
				t.Error("Check", with(change), e)
			}
		}
	}
}
