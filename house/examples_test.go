package house_test

import (
	"strings"
	"testing"

	"patrol/api"
	"patrol/house"
)

func TestExamplesOfTimes(t *testing.T) {
	h := exampleHouse()
	for _, x := range []struct {
		from, t int
		want    []int
	}{{0, 0, []int{0, 60, 21630}}, {0, 64800, []int{64800, 64860, 108030}}} {
		got, e := house.Earliest(h, x.from, x.t)
		same(t, "Earliest", got, x.want)
		if e != api.OK {
			t.Error("Earliest", e)
		}
	}
	for _, x := range []struct {
		to, t int
		want  []int
	}{{2, 21700, []int{21610, 21670, 21700}}, {2, 21600, []int{-1, -1, 21600}}, {0, 100, []int{100, 40, -1}}} {
		got, e := house.Latest(h, x.to, x.t)
		same(t, "Latest", got, x.want)
		if e != api.OK {
			t.Error("Latest", e)
		}
	}
}

func TestExamplesOfProofs(t *testing.T) {
	h := exampleHouse()
	for _, l := range [][]int{{0, 60, 21630}, {0, 0, 21630}} {
		if e := house.CheckWall(h, 0, 0, 2, 21629, l); e != api.OK {
			t.Error("CheckWall", l, e)
		}
	}
	if l, e := house.Wall(h, 0, 0, 2, 21630); len(l) > 0 || e != api.ErrNone {
		t.Error("Wall", l, e)
	}
	if room, at, e := house.Walk(h, 0, 0, []api.Step{ahead(0, 5), ahead(1, 21600)}); room != 2 || at != 21630 || e != api.OK {
		t.Error("Walk", room, at, e)
	}
	if room, at, e := house.Walk(h, 0, 0, []api.Step{ahead(0, 5), ahead(1, 70)}); room != 0 || at != 0 || e != api.ErrClash {
		t.Error("Walk", room, at, e)
	}
}

func TestExamplesOfDoors(t *testing.T) {
	h, e := house.Shut(exampleHouse(), 0, span(21600, 21699))
	if n, f := house.NextOpen(h, 0, 0); n != 21700 || e != api.OK || f != api.OK {
		t.Error("NextOpen", n, e, f)
	}
	if n, e := house.LastOpen(h, 0, 21699); n != -1 || e != api.OK {
		t.Error("LastOpen", n, e)
	}
	text, e := house.Print(exampleHouse())
	want := []string{"room gate 0", "room mill 0", "room loft 1", "door 21600-64800 shut", "way 0 1 60 60 -1", "way 1 2 30 0 0", ""}
	same(t, "Print", strings.Split(text, "\n"), want)
	if e != api.OK {
		t.Error("Print", e)
	}
}

// TestExampleOfTheWhole is the third example of DOC.md.
func TestExampleOfTheWhole(t *testing.T) {
	h := exampleHouse()
	if is, e := house.Can(h, 0, 30999, 2, 31089); !is || e != api.OK {
		t.Error("Can", is, e)
	}
	if is, e := house.Can(h, 0, 30999, 2, 31088); is || e != api.OK {
		t.Error("Can", is, e)
	}
	for _, b := range []int{0, 1} {
		if is, e := house.Can(h, 2, 0, b, api.MaxTime); is || e != api.OK {
			t.Error("Can", is, e)
		}
	}
}
