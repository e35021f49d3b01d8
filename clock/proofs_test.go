package clock_test

import (
	"slices"
	"testing"

	"patrol/api"
	"patrol/clock"
)

// follows is the definition of a walk along links, which returns its length.
func follows(links []api.Link, from, to int, path []int) (int, bool) {
	length := 0
	for _, k := range path {
		if k < 0 || k >= len(links) || links[k].From != from {
			return 0, false
		}
		length, from = length+links[k].Most, links[k].To
	}
	return length, from == to
}

// entersOnce reports whether a walk enters no node twice.
func entersOnce(links []api.Link, path []int) bool {
	entered := map[int]bool{}
	for _, k := range path {
		if entered[links[k].To] {
			return false
		}
		entered[links[k].To] = true
	}
	return true
}

func TestP2_9(t *testing.T) {
	records, all := wildRecords(9, 50, 5, 4)
	for k, r := range records {
		links := definedLinks(r)
		for u := range definedNodes(r) {
			for v := range definedNodes(r) {
				path, e := clock.Path(r, u, v)
				if all[k] == nil {
					if e != api.ErrClash || len(path) > 0 {
						t.Fatal("Path", u, v, path, e)
					}
					continue
				}
				length, is := follows(links, u, v, path)
				if e != api.OK || !is || length != all[k][u][v] || !entersOnce(links, path) || u == v && len(path) > 0 {
					t.Fatal("Path", r, u, v, path, e, length, "not", all[k][u][v])
				}
				if got, e := clock.CheckPath(r, u, v, path); got != length || e != api.OK {
					t.Fatal("CheckPath", u, v, path, got, e)
				}
			}
		}
	}
}

func TestP2_9Errors(t *testing.T) {
	for _, r := range []api.Record{exampleRecord(), contradiction()} {
		n := len(definedNodes(r))
		for _, k := range []int{-1, n, minInt, maxInt} {
			for _, c := range [][2]int{{k, 0}, {0, k}, {k, k}} {
				if path, e := clock.Path(r, c[0], c[1]); e != api.ErrArg || len(path) > 0 {
					t.Error("Path", c, path, e)
				}
				for _, path := range [][]int{nil, {0}, make([]int, 61), {-1}} {
					if length, e := clock.CheckPath(r, c[0], c[1], path); e != api.ErrArg || length != 0 {
						t.Error("CheckPath", c, path, length, e)
					}
				}
			}
		}
	}
	if path, e := clock.Path(contradiction(), 3, 3); e != api.ErrClash || len(path) > 0 {
		t.Error("from a node to itself, without a timing:", path, e)
	}
}

// TestP2_9CheckPath goes along the first links of the example: from the origin to NoIn, back, to NoOut, back.
func TestP2_9CheckPath(t *testing.T) {
	round := slices.Repeat([]int{0, 1}, 30)
	for k, c := range []struct {
		from, to int
		path     []int
		length   int
		e        api.Errno
	}{
		{0, 0, nil, 0, api.OK}, {5, 5, []int{}, 0, api.OK}, {0, 1, nil, 0, api.ErrProof},
		{0, 1, []int{0}, 1010, api.OK}, {0, 0, []int{0, 1}, 10, api.OK}, {1, 1, []int{1, 0}, 10, api.OK}, {1, 2, []int{1, 2}, 5000, api.OK},
		{0, 1, []int{0, 1, 0}, 1020, api.OK}, {0, 0, []int{0, 1, 2, 3, 0, 1}, 1020, api.OK},
		{0, 2, []int{0}, 0, api.ErrProof}, {1, 1, []int{0}, 0, api.ErrProof}, {0, 1, []int{1}, 0, api.ErrProof}, {0, 1, []int{0, 0}, 0, api.ErrProof}, {0, 2, []int{0, 2}, 0, api.ErrProof}, {0, 0, []int{2, 1}, 0, api.ErrProof},
		{0, 1, []int{-1}, 0, api.ErrProof}, {0, 1, []int{71}, 0, api.ErrProof}, {0, 1, []int{0, 1, minInt}, 0, api.ErrProof}, {0, 1, []int{maxInt}, 0, api.ErrProof}, {0, 0, []int{-1, 71}, 0, api.ErrProof}, {3, 3, []int{0, 1}, 0, api.ErrProof},
		{0, 0, round, 300, api.OK}, {1, 1, round, 0, api.ErrProof}, {0, 1, append(slices.Clone(round), 0), 0, api.ErrLimit}, {0, 0, append(slices.Clone(round), 0, 1), 0, api.ErrLimit}, {0, 1, make([]int, 61), 0, api.ErrLimit}, {0, 1, make([]int, 60), 0, api.ErrProof}, {0, 0, slices.Repeat([]int{-1}, 61), 0, api.ErrLimit},
	} {
		if length, e := clock.CheckPath(exampleRecord(), c.from, c.to, c.path); length != c.length || e != c.e {
			t.Error(k, length, e)
		}
	}
	// Walks are those of links, whether or not there is a timing: here one with a length of less than 0 comes back.
	cycle, _, _ := clock.Clash(contradiction())
	links := definedLinks(contradiction())
	from := links[cycle[0]].From
	want, _ := follows(links, from, from, cycle)
	if length, e := clock.CheckPath(contradiction(), from, from, cycle); length != want || want >= 0 || e != api.OK {
		t.Error("around a cycle:", length, e)
	}
}

func TestP2_10(t *testing.T) {
	records, all := wildRecords(10, 400, api.MaxStrikes, 6)
	clashes := 0
	for k, r := range records {
		cycle, is, e := clock.Clash(r)
		if e != api.OK || is != (all[k] == nil) || is != (len(cycle) > 0) {
			t.Fatal("Clash", r, cycle, is, e)
		}
		if !is {
			continue
		}
		clashes++
		links := definedLinks(r)
		for n := range cycle {
			turned := slices.Concat(cycle[n:], cycle[:n])
			from := links[turned[0]].From
			length, walks := follows(links, from, from, turned)
			if !walks || length >= 0 || !entersOnce(links, turned) {
				t.Fatal("Clash", r, cycle, length)
			}
			if e := clock.CheckClash(r, turned); e != api.OK {
				t.Error("CheckClash", r, turned, e)
			}
			if e := clock.CheckClash(r, turned[1:]); e != api.ErrProof {
				t.Error("CheckClash of a walk that does not come back", r, turned[1:], e)
			}
		}
	}
	if clashes < 50 {
		t.Error("not an even test:", clashes)
	}
}

func TestP2_10CheckClash(t *testing.T) {
	r := contradiction() // its links 4 and 5 are those of the sight, 2100 to 2200
	cycle, _, _ := clock.Clash(r)
	many := slices.Repeat(cycle, 60/len(cycle))
	links := len(definedLinks(r))
	for k, c := range []struct {
		cycle []int
		e     api.Errno
	}{
		{cycle, api.OK}, {slices.Concat(cycle, cycle), api.OK}, {many, api.OK},
		{nil, api.ErrProof}, {[]int{}, api.ErrProof}, {[]int{0}, api.ErrProof}, {[]int{0, 1}, api.ErrProof}, {[]int{4, 5}, api.ErrProof}, {slices.Repeat([]int{0, 1}, 30), api.ErrProof},
		{[]int{-1}, api.ErrProof}, {[]int{links}, api.ErrProof}, {[]int{minInt}, api.ErrProof}, {[]int{maxInt}, api.ErrProof}, {append(slices.Clone(cycle), -1), api.ErrProof}, {append(slices.Clone(cycle), links), api.ErrProof}, {slices.Repeat([]int{-1}, 60), api.ErrProof},
		{slices.Repeat([]int{-1}, 61), api.ErrLimit}, {slices.Repeat(cycle, 61), api.ErrLimit}, {make([]int, 61), api.ErrLimit},
	} {
		if e := clock.CheckClash(r, c.cycle); e != c.e {
			t.Error(k, c.cycle, e)
		}
	}
	// A cycle with the length 0 proves nothing: a dial that is put in at just one second.
	r = exampleRecord()
	r.Session.In = span(1000, 1000)
	if e := clock.CheckClash(r, []int{0, 1}); e != api.ErrProof {
		t.Error("a length of 0:", e)
	}
	r.Sights = []api.Sight{sight(1, 2000, 2000), sight(1, 1999, 1999)}
	if e := clock.CheckClash(r, []int{6, 5}); e != api.OK {
		t.Error("a length of -1:", e)
	}
	if e := clock.CheckClash(r, []int{4, 7}); e != api.ErrProof {
		t.Error("a length of 1:", e)
	}
}

func TestP2_11Suspects(t *testing.T) {
	c := chance(11)
	strikes, sights := 0, 0
	for range 700 {
		r := c.record(8, 6)
		var ids, seen []int
		if !hasTiming(r) {
			for _, x := range r.Strikes {
				if hasTiming(withoutStrike(r, x.ID)) {
					ids = append(ids, x.ID)
				}
			}
			for k := range r.Sights {
				if hasTiming(withoutSight(r, k)) {
					seen = append(seen, k)
				}
			}
			slices.Sort(ids)
		}
		gotIDs, got, e := clock.Suspects(r)
		same(t, "the strikes", gotIDs, ids)
		same(t, "the sights", got, seen)
		if e != api.OK {
			t.Error(e)
		}
		if len(ids) > 1 {
			strikes++
		}
		if len(seen) > 0 {
			sights++
		}
	}
	if strikes < 10 || sights < 10 {
		t.Error("not an even test:", strikes, sights)
	}
}

func TestP2_11SuspectsSmall(t *testing.T) {
	apart := exampleRecord(sight(1, 2100, 2200), sight(2, 2100, 2200))
	for k, c := range []struct {
		r           api.Record
		ids, sights []int
	}{
		{exampleRecord(), nil, nil},
		{contradiction(), []int{1}, []int{0}},
		{apart, nil, nil}, // each sight alone contradicts the dial
		{exampleRecord(sight(2, 3000, 3010), sight(1, 2050, 2100)), []int{1}, []int{1}},
		{exampleRecord(sight(2, 2990, 2990), sight(1, 2011, 2011)), []int{1, 2}, []int{0, 1}},
		{exampleRecord(sight(1, 2000, 2000), sight(1, 2000, 2001), sight(1, 2005, 2006)), []int{1}, []int{2}},
	} {
		ids, sights, e := clock.Suspects(c.r)
		if !slices.Equal(ids, c.ids) || !slices.Equal(sights, c.sights) || e != api.OK {
			t.Error(k, ids, sights, e)
		}
	}
	// In increasing order of the IDs, not in that of the strikes.
	r := exampleRecord(sight(9, 2990, 2990), sight(10, 2011, 2011))
	r.Strikes[0].ID, r.Strikes[1].ID = 10, 9
	ids, sights, _ := clock.Suspects(r)
	same(t, "the strikes", ids, []int{9, 10})
	same(t, "the sights", sights, []int{0, 1})
}

func TestP2_11Needed(t *testing.T) {
	c := chance(12)
	records, all := wildRecords(111, 200, 6, 6)
	needed := 0
	for k, r := range records {
		if len(r.Strikes) == 0 {
			continue
		}
		n := c.n(len(r.Strikes))
		got, e := clock.Needed(r, n)
		if all[k] == nil {
			if e != api.ErrClash || len(got) > 0 {
				t.Error("Needed", got, e)
			}
			continue
		}
		var want []int
		for x := range r.Sights {
			if rows, _ := definedBounds(withoutSight(r, x)); timesIn(rows, 3+n) != timesIn(all[k], 3+n) {
				want = append(want, x)
			}
		}
		same(t, "Needed", got, want)
		needed += len(want)
		if e != api.OK {
			t.Error(e)
		}
	}
	if needed < 30 {
		t.Error("not an even test:", needed)
	}
}

func TestP2_11NeededSmall(t *testing.T) {
	for k, c := range []struct {
		sights []api.Sight
		strike int
		want   []int
		e      api.Errno
	}{
		{nil, 0, nil, api.OK},
		{[]api.Sight{sight(1, 2005, 2100)}, 0, []int{0}, api.OK}, {[]api.Sight{sight(1, 2005, 2100)}, 1, []int{0}, api.OK},
		{[]api.Sight{sight(1, 1000, 3000)}, 0, nil, api.OK},
		{[]api.Sight{sight(1, 2005, 2100), sight(1, 2005, 2099)}, 0, nil, api.OK}, // either one does without the other
		{[]api.Sight{sight(1, 2005, 2100), sight(1, 2004, 2007), sight(1, 2003, 2200)}, 0, []int{0, 1}, api.OK},
		{[]api.Sight{sight(1, 2005, 2100)}, -1, nil, api.ErrArg}, {[]api.Sight{sight(1, 2005, 2100)}, 2, nil, api.ErrArg}, {nil, minInt, nil, api.ErrArg}, {nil, maxInt, nil, api.ErrArg},
		{[]api.Sight{sight(1, 2100, 2200)}, 2, nil, api.ErrArg}, {[]api.Sight{sight(1, 2100, 2200)}, 1, nil, api.ErrClash},
	} {
		got, e := clock.Needed(exampleRecord(c.sights...), c.strike)
		if !slices.Equal(got, c.want) || e != c.e {
			t.Error(k, got, e)
		}
	}
}
