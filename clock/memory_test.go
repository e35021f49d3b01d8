package clock_test

import (
	"slices"
	"testing"

	"patrol/api"
	"patrol/clock"
)

// roomy returns a list with room and other elements behind its end, and all of it.
func roomy[T any](l []T, behind T) (list, all []T) {
	all = append(slices.Clone(l), behind, behind, behind)
	return all[:len(l)], all
}

// overwrite changes a list, up to its capacity.
func overwrite[T any](l []T, x T) {
	l = l[:cap(l)]
	for k := range l {
		l[k] = x
	}
}

// memoryRecord has a stop, and sights of which one is needed; with a further one that contradicts them if clash is true.
func memoryRecord(clash bool) api.Record {
	r := exampleRecord(sight(1, 2005, 2100), sight(2, 0, 9000))
	r.Session.Stops = []api.Stop{{At: 1500, Secs: span(60, 70)}}
	if clash {
		r.Sights = append(r.Sights, sight(2, 0, 9))
	}
	return r
}

// TestR6Arguments checks that arguments stay as they were, also behind their ends.
func TestR6Arguments(t *testing.T) {
	for _, clash := range []bool{false, true} {
		r := memoryRecord(clash)
		var stops []api.Stop
		var strikes []api.Strike
		var sights []api.Sight
		r.Session.Stops, stops = roomy(r.Session.Stops, api.Stop{At: 77})
		r.Strikes, strikes = roomy(r.Strikes, strike(88, 8, 8))
		r.Sights, sights = roomy(r.Sights, sight(99, 9, 9))
		ids, allIDs := roomy([]int{2, 7, 1, 2}, -5)
		first, _ := clock.First(memoryRecord(false))
		times, allTimes := roomy(first, -5)
		cycle, _, _ := clock.Clash(memoryRecord(true))
		walk, allWalk := roomy(append(slices.Clone(cycle), 0, 1), -5)
		seconds, allSeconds := roomy([]int{2006, 3070}, -5)
		now := func() []any {
			return []any{slices.Clone(stops), slices.Clone(strikes), slices.Clone(sights), slices.Clone(allIDs), slices.Clone(allTimes), slices.Clone(allWalk), slices.Clone(allSeconds)}
		}
		before := now()
		calls(r, false)
		calls(r, true)
		clock.Without(r, ids)
		clock.CheckTimes(r, times)
		clock.CheckPath(r, 0, 1, walk)
		clock.CheckClash(r, walk)
		clock.Fits(r, seconds)
		clock.Plays(r.Session, api.Run{})
		after := now()
		same(t, "the stops", after[0].([]api.Stop), before[0].([]api.Stop))
		same(t, "the strikes", after[1].([]api.Strike), before[1].([]api.Strike))
		same(t, "the sights", after[2].([]api.Sight), before[2].([]api.Sight))
		for k := 3; k < len(after); k++ {
			same(t, "a list of numbers", after[k].([]int), before[k].([]int))
		}
	}
	s, x := playing()
	legs := slices.Clone(x.Legs)
	stops := slices.Clone(s.Stops)
	clock.CheckRun(x)
	clock.Needle(x, 1010)
	clock.Plays(s, x)
	same(t, "the legs", x.Legs, legs)
	same(t, "the stops", s.Stops, stops)
}

// TestR6Without checks that the record that Without returns shares nothing with the one it is made of.
func TestR6Without(t *testing.T) {
	for _, ids := range [][]int{nil, {1}, {2}, {9}, {1, 2}} {
		r := memoryRecord(false)
		got, e := clock.Without(r, ids)
		want := copyOf(got)
		overwrite(r.Session.Stops, api.Stop{})
		overwrite(r.Strikes, api.Strike{})
		overwrite(r.Sights, api.Sight{})
		sameRecord(t, "the result", got, want)
		r = memoryRecord(false)
		got, f := clock.Without(r, ids)
		overwrite(got.Session.Stops, api.Stop{})
		overwrite(got.Strikes, api.Strike{})
		overwrite(got.Sights, api.Sight{})
		sameRecord(t, "the argument", r, memoryRecord(false))
		if e != api.OK || f != api.OK {
			t.Error(e, f)
		}
	}
}

// TestR6Results overwrites results, one after the other: no other result and no later call may change.
func TestR6Results(t *testing.T) {
	good, bad := memoryRecord(false), memoryRecord(true)
	lists := func() [][]int {
		rows, _ := clock.Tight(good)
		first, _ := clock.First(good)
		last, _ := clock.Last(good)
		path, _ := clock.Path(good, 0, 4)
		cycle, _, _ := clock.Clash(bad)
		ids, sights, _ := clock.Suspects(bad)
		needed, _ := clock.Needed(good, 0)
		return append(rows, first, last, path, cycle, ids, sights, needed)
	}
	want, got := lists(), lists()
	for k, l := range got {
		if len(l) == 0 {
			t.Error("nothing to overwrite:", k)
		}
		same(t, "a result", l, want[k])
		overwrite(l, -7)
	}
	for k, l := range lists() {
		same(t, "a later result", l, want[k])
	}
	nodes, _ := clock.Nodes(good)
	links, _ := clock.Links(good)
	spans, _ := clock.Spans(good)
	keep := []any{slices.Clone(nodes), slices.Clone(links), slices.Clone(spans)}
	overwrite(nodes, api.Node{})
	overwrite(links, api.Link{})
	overwrite(spans, api.Span{})
	nodes, _ = clock.Nodes(good)
	links, _ = clock.Links(good)
	spans, _ = clock.Spans(good)
	same(t, "Nodes once more", nodes, keep[0].([]api.Node))
	same(t, "Links once more", links, keep[1].([]api.Link))
	same(t, "Spans once more", spans, keep[2].([]api.Span))
	sameRecord(t, "the record", good, memoryRecord(false))
}
