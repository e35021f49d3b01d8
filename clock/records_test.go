package clock_test

import (
	"slices"
	"testing"

	"patrol/api"
	"patrol/clock"
)

// edited returns a record that is the example but for an edit.
func edited(edit func(r *api.Record)) api.Record {
	r := exampleRecord(sight(1, 1900, 2100), sight(2, 2900, 3100))
	edit(&r)
	return r
}

// badSpans returns spans that are not valid from lo to hi.
func badSpans(lo, hi int) []api.Span {
	return []api.Span{span(lo-1, hi), span(lo, hi+1), span(hi, lo), span(lo-1, lo-1), span(hi+1, hi+1), span(lo+1, lo), span(minInt, hi), span(lo, maxInt), span(maxInt, minInt), span(minInt, minInt), span(maxInt, maxInt)}
}

// badSessions returns sessions that are not valid.
func badSessions() []api.Session {
	var l []api.Session
	add := func(edit func(s *api.Session)) {
		s := exampleSession()
		edit(&s)
		l = append(l, s)
	}
	for _, id := range []int{0, -1, api.MaxID + 1, minInt, maxInt} {
		add(func(s *api.Session) { s.ID = id })
	}
	for _, x := range badSpans(0, api.MaxTime) {
		add(func(s *api.Session) { s.In = x })
		add(func(s *api.Session) { s.Out = x })
	}
	for _, x := range badSpans(0, api.MaxPos) {
		add(func(s *api.Session) { s.Zero = x })
		add(func(s *api.Session) { s.End = x })
	}
	for _, x := range badSpans(api.MinRate, api.MaxRate) {
		add(func(s *api.Session) { s.Rate = x })
	}
	for _, x := range badSpans(0, api.MaxStop) {
		add(func(s *api.Session) { s.Stops = []api.Stop{{At: 1500, Secs: x}} })
		add(func(s *api.Session) { s.Stops = []api.Stop{{At: 1500}, {At: 1600, Secs: x}} })
	}
	add(func(s *api.Session) { s.Zero = span(4001, 4010) })
	add(func(s *api.Session) { s.Zero = span(3000, 4021) })
	for _, at := range []int{9, 4000, 4001, 0, -1, minInt, maxInt} {
		add(func(s *api.Session) { s.Stops = []api.Stop{{At: at}} })
		add(func(s *api.Session) { s.Stops = []api.Stop{{At: 10}, {At: at}} })
	}
	add(func(s *api.Session) { s.Stops = []api.Stop{{At: 1500}, {At: 1500}} })
	add(func(s *api.Session) { s.Stops = []api.Stop{{At: 10}, {At: 1501}, {At: 1500}} })
	return l
}

// checkError checks that all functions with a record return an error, and nothing else.
func checkError(t *testing.T, what any, r api.Record, want api.Errno) {
	t.Helper()
	for _, bad := range []bool{false, true} {
		for name, got := range calls(r, bad) {
			if got.e != want || !got.zero {
				t.Error(name, what, got, "not", want, r)
			}
		}
	}
}

func TestP2_1Session(t *testing.T) {
	for k, s := range badSessions() {
		checkError(t, k, edited(func(r *api.Record) { r.Session = s }), api.ErrArg)
		checkError(t, k, api.Record{Session: s}, api.ErrArg)
	}
	checkError(t, "nothing", api.Record{}, api.ErrArg)
}

func TestP2_1Limits(t *testing.T) {
	full := fullRecord()
	if e := clock.Check(full); e != api.OK {
		t.Error("as many as there may be:", e)
	}
	for k, edit := range []func(r *api.Record){
		func(r *api.Record) { r.Session.Stops = make([]api.Stop, api.MaxStops+1) },
		func(r *api.Record) { r.Session.Stops = append(r.Session.Stops, api.Stop{At: 39000}) },
		func(r *api.Record) { r.Session = api.Session{Stops: make([]api.Stop, api.MaxStops+1)} },
		func(r *api.Record) { r.Strikes = append(r.Strikes, strike(50, 200, 300)) },
		func(r *api.Record) { r.Sights = append(r.Sights, sight(1, 0, 90000)) },
		func(r *api.Record) { r.Strikes = make([]api.Strike, api.MaxStrikes+1) },
		func(r *api.Record) { r.Strikes, r.Sights = nil, make([]api.Sight, api.MaxSights+1) },
		func(r *api.Record) { r.Strikes[0].ID = 0; r.Sights = append(r.Sights, sight(1, 0, 90000)) },
		func(r *api.Record) { r.Strikes[0].ID = 1; r.Sights = append(r.Sights, sight(1, 0, 90000)) },
	} {
		r := copyOf(full)
		edit(&r)
		checkError(t, k, r, api.ErrLimit)
	}
}

func TestP2_1Strikes(t *testing.T) {
	for k, x := range []api.Strike{strike(0, 50, 60), strike(-1, 50, 60), strike(api.MaxID+1, 50, 60), strike(minInt, 50, 60), strike(maxInt, 50, 60), strike(3, 60, 59), strike(3, -1, 60), strike(3, 50, 4021), strike(3, 4021, 4021), strike(3, minInt, 60), strike(3, 50, maxInt), strike(3, maxInt, minInt)} {
		checkError(t, k, edited(func(r *api.Record) { r.Strikes = append(r.Strikes, x) }), api.ErrArg)
		checkError(t, k, edited(func(r *api.Record) { r.Strikes = slices.Insert(r.Strikes, 0, x) }), api.ErrArg)
	}
	checkError(t, "ahead of Zero", edited(func(r *api.Record) { r.Session.Zero.Lo, r.Strikes[0].Pos.Lo = 5, 4 }), api.ErrArg)
	checkError(t, "twice", edited(func(r *api.Record) { r.Strikes[1].ID = 1 }), api.ErrTwice)
	checkError(t, "twice, apart", edited(func(r *api.Record) { r.Strikes = append(r.Strikes, strike(1, 3000, 3000)) }), api.ErrTwice)
}

func TestP2_1Sights(t *testing.T) {
	for k, x := range badSpans(0, api.MaxTime) {
		checkError(t, k, edited(func(r *api.Record) { r.Sights[1].At = x }), api.ErrArg)
		checkError(t, k, edited(func(r *api.Record) { r.Sights[0] = api.Sight{Strike: 7, At: x} }), api.ErrArg)
	}
	for _, id := range []int{0, 3, -1, api.MaxID + 1, minInt, maxInt} {
		checkError(t, id, edited(func(r *api.Record) { r.Sights[1].Strike = id }), api.ErrNone)
	}
	checkError(t, "no strikes", edited(func(r *api.Record) { r.Strikes = nil }), api.ErrNone)
}

// TestP2_1Order has records with several errors.
func TestP2_1Order(t *testing.T) {
	for k, c := range []struct {
		edit func(r *api.Record)
		e    api.Errno
	}{
		{func(r *api.Record) { r.Session.ID = 0; r.Strikes = make([]api.Strike, 13) }, api.ErrArg},
		{func(r *api.Record) { r.Session.ID = 0; r.Strikes[1].ID = 1 }, api.ErrArg},
		{func(r *api.Record) { r.Session.Stops = make([]api.Stop, 5); r.Session.ID = 0 }, api.ErrLimit},
		{func(r *api.Record) { r.Strikes[1] = strike(1, 60, 50) }, api.ErrArg},
		{func(r *api.Record) { r.Strikes[1].ID = 1; r.Strikes = append(r.Strikes, strike(0, 0, 0)) }, api.ErrTwice},
		{func(r *api.Record) { r.Strikes = append(r.Strikes, strike(0, 0, 0), strike(1, 0, 0)) }, api.ErrArg},
		{func(r *api.Record) { r.Strikes[1].ID = 1; r.Sights[0].At = span(1, 0) }, api.ErrTwice},
		{func(r *api.Record) { r.Strikes[1].ID = 0; r.Sights[1].Strike = 9 }, api.ErrArg},
		{func(r *api.Record) { r.Sights[0].Strike = 9; r.Sights[1].At = span(1, 0) }, api.ErrNone},
		{func(r *api.Record) { r.Sights[0].At = span(1, 0); r.Sights[1].Strike = 9 }, api.ErrArg},
		{func(r *api.Record) { r.Sights[0] = sight(9, 1, 0) }, api.ErrArg},
	} {
		checkError(t, k, edited(c.edit), c.e)
	}
}

func TestP2_1Valid(t *testing.T) {
	for k, edit := range []func(r *api.Record){
		func(r *api.Record) {},
		func(r *api.Record) { r.Strikes, r.Sights = nil, nil },
		func(r *api.Record) { r.Strikes, r.Sights = []api.Strike{}, []api.Sight{} },
		func(r *api.Record) { r.Session.ID, r.Strikes[0].ID, r.Sights = api.MaxID, api.MaxID, nil },
		func(r *api.Record) { r.Session.In, r.Session.Out = span(0, 0), span(api.MaxTime, api.MaxTime) },
		func(r *api.Record) { r.Session.In, r.Session.Out = span(0, api.MaxTime), span(0, api.MaxTime) },
		func(r *api.Record) { r.Session.In, r.Session.Out = span(900, 900), span(100, 100) },
		func(r *api.Record) { r.Session.Zero, r.Session.End = span(0, api.MaxPos), span(0, api.MaxPos) },
		func(r *api.Record) { r.Session.Zero, r.Session.End = span(0, 4020), span(0, 4020) },
		func(r *api.Record) { r.Session.Rate = span(api.MinRate, api.MaxRate) },
		func(r *api.Record) { r.Session.Rate = span(api.MaxRate, api.MaxRate) },
		func(r *api.Record) { r.Session.Rate = span(api.MinRate, api.MinRate) },
		func(r *api.Record) { r.Session.Stops = []api.Stop{{At: 10}, {At: 11, Secs: span(0, api.MaxStop)}} },
		func(r *api.Record) { r.Session.Stops = []api.Stop{{At: 3999, Secs: span(api.MaxStop, api.MaxStop)}} },
		func(r *api.Record) { r.Strikes[0].Pos, r.Strikes[1].Pos = span(0, 4020), span(0, 0) },
		func(r *api.Record) { r.Strikes[0].Pos, r.Strikes[1].Pos = span(4020, 4020), span(3, 3) },
		func(r *api.Record) { r.Sights = []api.Sight{sight(1, 0, 0), sight(1, 0, 0), sight(1, 9, api.MaxTime)} },
		func(r *api.Record) { r.Strikes[0].ID, r.Strikes[1].ID = 2, 1 },
	} {
		r := edited(edit)
		if e := clock.Check(r); e != api.OK {
			t.Error(k, e)
		}
		if _, e := clock.Nodes(r); e != api.OK {
			t.Error("Nodes", k, e)
		}
	}
}

func TestP2_2Example(t *testing.T) {
	nodes, e := clock.Nodes(exampleRecord())
	want := []api.Node{{Kind: 0}, {Kind: 1}, {Kind: 2}, {Kind: 3, N: 0}, {Kind: 3, N: 1}, {Kind: 4, N: 0}, {Kind: 4, N: 10}, {Kind: 4, N: 1000}, {Kind: 4, N: 1001}, {Kind: 4, N: 2000}, {Kind: 4, N: 2006}, {Kind: 4, N: 4000}, {Kind: 4, N: 4021}}
	same(t, "Nodes", nodes, want)
	links, f := clock.Links(exampleRecord())
	if e != api.OK || f != api.OK || len(links) != 71 {
		t.Error(e, f, len(links))
	}
}

// TestP2_2Links has each kind of link, positions that are marked several times, a stop at a marked position, and numbers that are rounded.
func TestP2_2Links(t *testing.T) {
	r := api.Record{
		Session: api.Session{ID: 5, In: span(70, 80), Out: span(90, 100), Zero: span(2, 6), End: span(9, api.MaxPos), Rate: span(950000, 1050000), Stops: []api.Stop{{At: 7, Secs: span(20, 30)}, {At: 8, Secs: span(100, 200)}}},
		Strikes: []api.Strike{strike(4, 7, 8), strike(2, 2, 6)},
		Sights:  []api.Sight{sight(2, 75, 85), sight(4, 60, 95), sight(2, 0, 99)},
	}
	nodes, e := clock.Nodes(r)
	same(t, "Nodes", nodes, []api.Node{{Kind: api.NoOrigin}, {Kind: api.NoIn}, {Kind: api.NoOut}, {Kind: api.NoStrike, N: 0}, {Kind: api.NoStrike, N: 1}, {Kind: api.NoArrive, N: 2}, {Kind: api.NoArrive, N: 7}, {Kind: api.NoArrive, N: 9}, {Kind: api.NoArrive, N: 43200}})
	links, f := clock.Links(r)
	if e != api.OK || f != api.OK {
		t.Error(e, f)
	}
	same(t, "Links", links, []api.Link{
		{From: 0, To: 1, Most: 80}, {From: 1, To: 0, Most: -70}, {From: 0, To: 2, Most: 100}, {From: 2, To: 0, Most: -90},
		{From: 0, To: 4, Most: 85}, {From: 4, To: 0, Most: -75}, {From: 0, To: 3, Most: 95}, {From: 3, To: 0, Most: -60}, {From: 0, To: 4, Most: 99}, {From: 4, To: 0, Most: 0},
		{From: 3, To: 1}, {From: 4, To: 3}, {From: 2, To: 4},
		{From: 1, To: 5}, {From: 6, To: 1}, {From: 3, To: 6}, {From: 7, To: 3}, {From: 4, To: 5}, {From: 6, To: 4}, {From: 2, To: 7}, {From: 8, To: 2},
		{From: 5, To: 6, Most: 6}, {From: 6, To: 5, Most: -4},
		{From: 5, To: 7, Most: 8 + 230}, {From: 7, To: 5, Most: -6 - 120},
		{From: 5, To: 8, Most: 45472 + 230}, {From: 8, To: 5, Most: -41140 - 120},
		{From: 6, To: 7, Most: 3 + 230}, {From: 7, To: 6, Most: -1 - 120},
		{From: 6, To: 8, Most: 45467 + 230}, {From: 8, To: 6, Most: -41136 - 120},
		{From: 7, To: 8, Most: 45465}, {From: 8, To: 7, Most: -41134},
	})
}

func TestP2_2Definition(t *testing.T) {
	c := chance(2)
	records := []api.Record{fullRecord(), contradiction(), {Session: exampleSession()}}
	for range 300 {
		records = append(records, c.record(api.MaxStrikes, api.MaxSights))
	}
	for _, r := range records {
		nodes, e := clock.Nodes(r)
		same(t, "Nodes", nodes, definedNodes(r))
		links, f := clock.Links(r)
		same(t, "Links", links, definedLinks(r))
		if e != api.OK || f != api.OK {
			t.Error(e, f)
		}
	}
	nodes, _ := clock.Nodes(fullRecord())
	links, _ := clock.Links(fullRecord())
	if len(nodes) != 43 || len(links) != 4+24+13+28+756 {
		t.Error("as many as there may be:", len(nodes), len(links))
	}
}

func TestP2_3(t *testing.T) {
	full := fullRecord() // strikes with the IDs 12 to 1
	for k, c := range []struct{ ids, left []int }{
		{nil, []int{12, 11, 10, 9, 8, 7, 6, 5, 4, 3, 2, 1}},
		{[]int{0, 13, -1, minInt, maxInt}, []int{12, 11, 10, 9, 8, 7, 6, 5, 4, 3, 2, 1}},
		{[]int{12}, []int{11, 10, 9, 8, 7, 6, 5, 4, 3, 2, 1}},
		{[]int{1, 5, 5, 99, 1}, []int{12, 11, 10, 9, 8, 7, 6, 4, 3, 2}},
		{[]int{2, 4, 6, 8, 10, 12}, []int{11, 9, 7, 5, 3, 1}},
		{[]int{1, 2, 3, 4, 5, 6, 7, 8, 9, 10, 11, 12}, nil},
	} {
		want := copyOf(full)
		for _, id := range c.ids {
			want = withoutStrike(want, id)
		}
		got, e := clock.Without(full, c.ids)
		sameRecord(t, "Without", got, want)
		var left []int
		for _, x := range got.Strikes {
			left = append(left, x.ID)
		}
		same(t, "what is left", left, c.left)
		if e != api.OK || clock.Check(got) != api.OK {
			t.Error(k, e)
		}
	}
	r := exampleRecord(sight(1, 5, 6), sight(2, 7, 8), sight(1, 3, 4), sight(2, 1, 2))
	got, _ := clock.Without(r, []int{1})
	same(t, "the other sights in order", got.Sights, []api.Sight{sight(2, 7, 8), sight(2, 1, 2)})
	if _, e := clock.Without(contradiction(), []int{2}); e != api.OK {
		t.Error("of a record that is not consistent:", e)
	}
}
