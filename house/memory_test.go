package house_test

import (
	"slices"
	"testing"

	"patrol/api"
	"patrol/house"
)

// roomy returns a list with room and other elements behind its end, and all of it.
func roomy[T any](l []T, behind T) (list, all []T) {
	all = append(slices.Clone(l), behind, behind, behind)
	return all[:len(l)], all
}

// overwrite changes a list, up to its capacity.
func overwrite[T any](l []T, x T) {
	l = l[:cap(l)]
	for k := range l {
		l[k] = x
	}
}

// overwriteHouse changes all lists of a house, from the innermost ones on.
func overwriteHouse(h api.House) {
	for _, d := range h.Doors[:cap(h.Doors)] {
		overwrite(d.Hours, span(-7, -7))
		overwrite(d.Shut, span(-7, -7))
	}
	overwrite(h.Doors, api.Door{})
	overwrite(h.Rooms, api.Room{Name: "over"})
	overwrite(h.Ways, api.Way{A: -7})
}

// memoryHouse has doors of which each has hours and closures.
func memoryHouse() api.House {
	h := exampleHouse()
	h.Doors = append(h.Doors, api.Door{Hours: spans(span(5, 9), span(20, 30)), Shut: spans(span(7, 7), span(40, 50))})
	h.Doors[0].Shut = spans(span(22000, 22100), span(30000, 30001))
	h.Doors = slices.Clip(h.Doors)
	return h
}

// TestR6Arguments checks that arguments stay as they were, also behind their ends.
func TestR6Arguments(t *testing.T) {
	h := memoryHouse()
	var whole api.House // the lists with what lies behind their ends
	for k, d := range h.Doors {
		var all api.Door
		h.Doors[k].Hours, all.Hours = roomy(d.Hours, span(77, 77))
		h.Doors[k].Shut, all.Shut = roomy(d.Shut, span(88, 88))
		whole.Doors = append(whole.Doors, all)
	}
	h.Rooms, whole.Rooms = roomy(h.Rooms, api.Room{Name: "behind"})
	h.Ways, whole.Ways = roomy(h.Ways, api.Way{A: 99})
	doors, allDoors := roomy(h.Doors, api.Door{Hours: spans(span(1, 1))})
	h.Doors = doors
	x := rightArgs()
	var steps []api.Step
	var labels, series []int
	x.steps, steps = roomy([]api.Step{ahead(0, 5), ahead(1, 21600)}, ahead(9, 9))
	x.labels, labels = roomy(x.labels, -5)
	x.series, series = roomy([]int{2, 0, 1, 0}, -5)
	before, beforeSteps, beforeLabels, beforeSeries := copyOf(whole), slices.Clone(steps), slices.Clone(labels), slices.Clone(series)
	for _, s := range []api.Span{span(0, 9), span(10, 60), span(6, 21000), span(0, 100000), span(0, api.MaxTime), span(50, 52)} {
		for door := range h.Doors {
			x.s, x.door = s, door
			for name, o := range calls(h, x) {
				if o.e != api.OK && !(name == "Openings" && o.e == api.ErrLimit) {
					t.Error(name, o)
				}
			}
			house.Check(h)
		}
	}
	sameHouse(t, "the house", whole, before)
	sameHouse(t, "the house, to its ends", h, memoryHouse())
	if len(allDoors) != 5 || len(allDoors[2].Hours) != 1 || len(allDoors[4].Hours) != 1 || allDoors[3].Hours[0] != span(1, 1) {
		t.Error("the doors:", allDoors)
	}
	same(t, "the steps", steps, beforeSteps)
	same(t, "the labels", labels, beforeLabels)
	same(t, "the rooms", series, beforeSeries)
}

// TestR6Shut checks that the house that Shut returns shares nothing with the one it is made of, nor do its lists with each other.
func TestR6Shut(t *testing.T) {
	for _, s := range []api.Span{span(7, 7), span(0, 3), span(60, 70), span(22000, 22100), span(0, api.MaxTime)} {
		for door := range memoryHouse().Doors {
			h := memoryHouse()
			got, e := house.Shut(h, door, s)
			want := copyOf(got)
			overwriteHouse(h)
			sameHouse(t, "the result", got, want)
			h = memoryHouse()
			got, f := house.Shut(h, door, s)
			overwriteHouse(got)
			sameHouse(t, "the argument", h, memoryHouse())
			if e != api.OK || f != api.OK {
				t.Error(e, f)
			}
		}
	}
	apart(t, "Shut", func() api.House {
		h, _ := house.Shut(memoryHouse(), 1, span(60, 70))
		return h
	})
}

// apart overwrites each list of spans of a house alone: no other one may change.
func apart(t *testing.T, what string, result func() api.House) {
	t.Helper()
	lists := func(h api.House) [][]api.Span {
		var l [][]api.Span
		for _, d := range h.Doors {
			l = append(l, d.Hours, d.Shut)
		}
		return l
	}
	want := lists(result())
	for k := range want {
		got := lists(result())
		overwrite(got[k], span(-7, -7))
		for n := range got {
			if n != k {
				same(t, what, got[n], want[n])
			}
		}
	}
}

// TestR6Results overwrites results, one after the other: no other result and no later call may change.
func TestR6Results(t *testing.T) {
	h := memoryHouse()
	lists := func() [][]int {
		rows, _ := house.Distances(h)
		first, _ := house.Earliest(h, 0, 0)
		last, _ := house.Latest(h, 2, 30000)
		wall, _ := house.Wall(h, 0, 0, 2, 5)
		return append(rows, first, last, wall)
	}
	want, got := lists(), lists()
	for k, l := range got {
		same(t, "a result", l, want[k])
		overwrite(l, -7)
	}
	for k, l := range lists() {
		same(t, "a later result", l, want[k])
	}
	openings, _ := house.Openings(h, 1, span(0, 100))
	route, _ := house.Route(h, 0, 0, 2)
	keepOpenings, keepRoute := slices.Clone(openings), slices.Clone(route)
	overwrite(openings, api.Span{})
	overwrite(route, api.Step{})
	openings, _ = house.Openings(h, 1, span(0, 100))
	route, _ = house.Route(h, 0, 0, 2)
	same(t, "Openings once more", openings, keepOpenings)
	same(t, "Route once more", route, keepRoute)
	sameHouse(t, "the house", h, memoryHouse())
	text, _ := house.Print(h)
	apart(t, "Parse", func() api.House {
		x, _ := house.Parse(text)
		return x
	})
	x, _ := house.Parse(text)
	overwriteHouse(x)
	x, e := house.Parse(text)
	sameHouse(t, "Parse once more", x, memoryHouse())
	if e != api.OK || len(openings) == 0 || len(route) == 0 {
		t.Error(e, openings, route)
	}
}
