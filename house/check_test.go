package house_test

import (
	"slices"
	"strings"
	"testing"

	"patrol/api"
	"patrol/house"
)

// named returns rooms with some names.
func named(names ...string) []api.Room {
	var l []api.Room
	for _, name := range names {
		l = append(l, api.Room{Name: name})
	}
	return l
}

func checked(t *testing.T, what string, h api.House, e api.Errno, k int) {
	t.Helper()
	if f, n := house.Check(h); f != e || n != k {
		t.Errorf("Check: %s: %d %d, not %d %d", what, f, n, e, k)
	}
}

func TestP3_1Sizes(t *testing.T) {
	checked(t, "the example", exampleHouse(), api.OK, -1)
	checked(t, "all that there may be", fullHouse(), api.OK, -1)
	checked(t, "one room", api.House{Rooms: named("a")}, api.OK, -1)
	checked(t, "nothing", api.House{}, api.ErrArg, -1)
	checked(t, "no rooms", with(func(h *api.House) { h.Rooms = nil }), api.ErrArg, -1)
	checked(t, "no rooms, too many doors", api.House{Doors: make([]api.Door, api.MaxDoors+1)}, api.ErrArg, -1)
	h := fullHouse()
	h.Rooms = append(h.Rooms, api.Room{Name: "z"})
	checked(t, "too many rooms", h, api.ErrLimit, -1)
	h = fullHouse()
	h.Doors = append(h.Doors, api.Door{})
	checked(t, "too many doors", h, api.ErrLimit, -1)
	h = fullHouse()
	h.Ways = append(h.Ways, h.Ways[0])
	checked(t, "too many ways", h, api.ErrLimit, -1)
	h.Rooms[0].Name = ""
	checked(t, "too many ways, and a bad name", h, api.ErrLimit, -1)
}

func TestP3_1Rooms(t *testing.T) {
	for _, name := range []string{"a", "z", "0", "9", "a0z9", "abcdefghijklmnop", "0123456789012345"} {
		checked(t, name, api.House{Rooms: named("b", name)}, api.OK, -1)
	}
	for _, name := range []string{"", "A", "Z", "aB", "a b", " a", "a ", "a-b", "a_b", "`", "{", "/", ":", "\xe9", "\u00e9", "a\n", "\x00", "abcdefghijklmnopq", strings.Repeat("a", 1000)} {
		checked(t, name, api.House{Rooms: named("b", name, "")}, api.ErrArg, 1)
	}
	for _, floor := range []int{-61, 61, minInt, maxInt} {
		checked(t, "a floor", with(func(h *api.House) { h.Rooms[2].Floor = floor }), api.ErrArg, 2)
	}
	for _, floor := range []int{-60, 0, 60} {
		checked(t, "a floor", with(func(h *api.House) { h.Rooms[2].Floor = floor }), api.OK, -1)
	}
	checked(t, "twice", api.House{Rooms: named("a", "b", "c", "b", "a")}, api.ErrTwice, 3)
	checked(t, "twice, then a bad name", api.House{Rooms: named("a", "a", "A")}, api.ErrTwice, 1)
	checked(t, "a bad name, then twice", api.House{Rooms: named("a", "A", "a")}, api.ErrArg, 1)
	checked(t, "a bad name twice", api.House{Rooms: named("A", "A")}, api.ErrArg, 0)
	h := api.House{Rooms: named("a", "a")}
	h.Rooms[1].Floor = 61
	checked(t, "twice, on a bad floor", h, api.ErrArg, 1)
	h = with(func(h *api.House) { h.Rooms[2].Name, h.Doors[0].Hours = "gate", spans(span(1, 0)) })
	checked(t, "twice, and a bad door", h, api.ErrTwice, 2)
}

// notOrderly are lists that are not orderly from 0 to a number that is greater than 100.
func notOrderly(most int) [][]api.Span {
	var many []api.Span
	for k := range api.MaxSpans + 1 {
		many = append(many, span(3*k, 3*k+1))
	}
	return [][]api.Span{
		many, spans(span(1, 0)), spans(span(-1, 5)), spans(span(-2, -1)), spans(span(0, most+1)), spans(span(most+1, most+1)), spans(span(maxInt, minInt)), spans(span(minInt, maxInt)),
		spans(span(0, 5), span(6, 7)), spans(span(0, 5), span(5, 7)), spans(span(0, 5), span(2, 3)), spans(span(0, 5), span(0, 5)), spans(span(10, 11), span(0, 5)),
		spans(span(0, 1), span(3, 4), span(5, 6)), spans(span(0, 1), span(4, 3)), spans(span(0, maxInt), span(5, 6)), spans(span(0, most), span(minInt, 6)),
	}
}

func TestP3_1Doors(t *testing.T) {
	good := [][]api.Span{nil, {}, spans(span(0, 0)), spans(span(0, api.DaySecs-1)), spans(span(0, 5), span(7, 7), span(9, 10)), spans(span(0, 0), span(api.DaySecs-1, api.DaySecs-1))}
	for _, l := range good {
		checked(t, "good hours", with(func(h *api.House) { h.Doors[0].Hours = l }), api.OK, -1)
		checked(t, "a good closure", with(func(h *api.House) { h.Doors[0].Shut = l }), api.OK, -1)
	}
	checked(t, "a closure for ever", with(func(h *api.House) { h.Doors[0].Shut = spans(span(0, api.MaxTime)) }), api.OK, -1)
	for _, l := range notOrderly(api.DaySecs - 1) {
		checked(t, "bad hours", with(func(h *api.House) { h.Doors = []api.Door{{}, {Hours: l}, {Hours: l}} }), api.ErrArg, 1)
	}
	for _, l := range notOrderly(api.MaxTime) {
		checked(t, "a bad closure", with(func(h *api.House) { h.Doors = []api.Door{{}, {}, {Shut: l}} }), api.ErrArg, 2)
	}
	checked(t, "bad hours and a bad way", with(func(h *api.House) { h.Doors[0].Hours, h.Ways[0].A = spans(span(1, 0)), -1 }), api.ErrArg, 0)
	h := with(func(h *api.House) {
		h.Doors, h.Ways[0].A = append(h.Doors, api.Door{Hours: spans(span(1, 0))}), -1
	})
	checked(t, "a bad second door and a bad first way", h, api.ErrArg, 1)
}

func TestP3_1Ways(t *testing.T) {
	x := api.Way{A: 0, B: 1, Secs: 60, Back: 60, Door: 0}
	for k, change := range []func(x *api.Way){
		func(x *api.Way) { x.A = -1 }, func(x *api.Way) { x.A = 3 }, func(x *api.Way) { x.B = -1 }, func(x *api.Way) { x.B = 3 }, func(x *api.Way) { x.B = maxInt }, func(x *api.Way) { x.A = minInt },
		func(x *api.Way) { x.A = 1 }, func(x *api.Way) { x.Secs = 0 }, func(x *api.Way) { x.Secs = 3601 }, func(x *api.Way) { x.Secs = -1 }, func(x *api.Way) { x.Back = -1 }, func(x *api.Way) { x.Back = 3601 },
		func(x *api.Way) { x.Door = -2 }, func(x *api.Way) { x.Door = 1 }, func(x *api.Way) { x.Door = minInt }, func(x *api.Way) { x.Secs = maxInt }, func(x *api.Way) { x.Back = minInt },
	} {
		bad := x
		change(&bad)
		h := with(func(h *api.House) { h.Ways = []api.Way{x, x, bad, bad} })
		if e, n := house.Check(h); e != api.ErrArg || n != 2 {
			t.Error("Check of a bad way:", k, e, n)
		}
	}
	for _, good := range []api.Way{{A: 2, B: 0, Secs: 1, Back: 0, Door: -1}, {A: 0, B: 2, Secs: 3600, Back: 3600, Door: 0}, {A: 1, B: 0, Secs: 3600, Back: 1, Door: -1}} {
		checked(t, "a good way", with(func(h *api.House) { h.Ways = []api.Way{good, good} }), api.OK, -1)
	}
	checked(t, "a way to itself in a house of one room", api.House{Rooms: named("a"), Ways: []api.Way{{Secs: 1, Door: -1}}}, api.ErrArg, 0)
}

// TestP3_1First checks that all functions return the error of Check before every other one.
func TestP3_1First(t *testing.T) {
	bad := args{name: "?", door: 9, way: 9, a: 9, ta: -1, b: 9, tb: -1, s: span(1, 0), steps: make([]api.Step, api.MaxSteps+1)}
	for _, h := range []api.House{{}, with(func(h *api.House) { h.Rooms[1].Name = "gate" }), with(func(h *api.House) { h.Doors[0].Hours[0].Hi = api.DaySecs }), with(func(h *api.House) { h.Ways[1].B = 3 }), with(func(h *api.House) { h.Ways = make([]api.Way, api.MaxWays+1) })} {
		e, _ := house.Check(h)
		for _, x := range []args{rightArgs(), bad} {
			for name, o := range calls(h, x) {
				if e == api.OK || o.e != e || !o.zero {
					t.Error(name, o, e)
				}
			}
		}
	}
}

// takes are the functions that take a room a, a time ta, and so on.
var takes = map[string][]string{
	"door":   {"IsOpen", "NextOpen", "LastOpen", "Openings", "Shut"},
	"way":    {"Enter", "Depart"},
	"a":      {"Walk", "Earliest", "Latest", "Route", "Can", "CheckLabels", "Wall", "CheckWall", "Least", "Nearest"},
	"ta":     {"IsOpen", "NextOpen", "LastOpen", "Enter", "Depart", "Walk", "Earliest", "Latest", "Route", "Can", "CheckLabels", "Wall", "CheckWall", "Tour", "Nearest"},
	"b":      {"Route", "Can", "Wall", "CheckWall", "Least"},
	"tb":     {"Can", "Wall", "CheckWall"},
	"series": {"Tour", "Nearest"},
}

// TestArguments gives each function an argument that is not an index or a time: ErrArg comes before all errors but that of Check.
func TestArguments(t *testing.T) {
	with := func(x args, what string, n int) args {
		switch what {
		case "door":
			x.door = n
		case "way":
			x.way = n
		case "a":
			x.a = n
		case "ta":
			x.ta = n
		case "b":
			x.b = n
		case "tb":
			x.tb = n
		case "series":
			x.series = []int{0, n, 0}
		}
		return x
	}
	late := args{name: "mill", door: 0, way: 1, back: true, a: 2, b: 0, tb: 5, s: span(0, api.MaxTime), steps: make([]api.Step, api.MaxSteps+1), series: []int{0}}
	h := exampleHouse()
	for name, o := range calls(h, rightArgs()) {
		if o.e != api.OK {
			t.Error(name, o)
		}
	}
	for what, names := range takes {
		numbers := []int{-1, 3, minInt, maxInt}
		switch what {
		case "ta", "tb":
			numbers = []int{-1, api.Never, minInt, maxInt}
		case "door":
			numbers = append(numbers, 1)
		case "way":
			numbers = append(numbers, 2)
		}
		for _, n := range numbers {
			got := calls(h, with(rightArgs(), what, n))
			gotLate := calls(h, with(late, what, n))
			for name, o := range got {
				if takes := slices.Contains(names, name); takes != (o.e == api.ErrArg) || takes && !o.zero {
					t.Error(what, n, name, o)
				}
				if slices.Contains(names, name) && (gotLate[name].e != api.ErrArg || !gotLate[name].zero) {
					t.Error(what, n, name, gotLate[name])
				}
			}
		}
	}
	for _, n := range []int{0, api.MaxTime} {
		for name, o := range calls(h, with(with(late, "ta", n), "tb", n)) {
			if o.e == api.ErrArg {
				t.Error(name, n, o)
			}
		}
	}
}

func TestP3_2(t *testing.T) {
	for k, x := range fullHouse().Rooms {
		if n, e := house.Find(fullHouse(), x.Name); n != k || e != api.OK {
			t.Error("Find", x.Name, n, e)
		}
	}
	for _, name := range []string{"", "gat", "gatee", "GATE", "gate ", " gate", "hall", "0"} {
		if n, e := house.Find(exampleHouse(), name); n != 0 || e != api.ErrNone {
			t.Error("Find", name, n, e)
		}
	}
}
