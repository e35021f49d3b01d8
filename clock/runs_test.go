package clock_test

import (
	"slices"
	"testing"

	"patrol/api"
	"patrol/clock"
)

func leg(secs, rate int) api.Leg { return api.Leg{Secs: secs, Rate: rate} }

func TestP2_12CheckRun(t *testing.T) {
	full := slices.Repeat([]api.Leg{leg(1, api.MinRate)}, api.MaxLegs)
	for k, c := range []struct {
		x api.Run
		e api.Errno
	}{
		{api.Run{}, api.OK}, {api.Run{Start: api.MaxTime, Micro: 43199999999}, api.OK}, {api.Run{Legs: []api.Leg{}}, api.OK},
		{api.Run{Start: -1}, api.ErrArg}, {api.Run{Start: api.MaxTime + 1}, api.ErrArg}, {api.Run{Start: minInt}, api.ErrArg}, {api.Run{Start: maxInt}, api.ErrArg},
		{api.Run{Micro: -1}, api.ErrArg}, {api.Run{Micro: 43200000000}, api.ErrArg}, {api.Run{Micro: minInt}, api.ErrArg}, {api.Run{Micro: maxInt}, api.ErrArg},
		{api.Run{Legs: full}, api.OK}, {api.Run{Legs: append(slices.Clone(full), leg(1, 0))}, api.ErrLimit}, {api.Run{Start: -1, Legs: make([]api.Leg, 41)}, api.ErrLimit}, {api.Run{Legs: make([]api.Leg, 40)}, api.ErrArg},
		{api.Run{Legs: []api.Leg{leg(1, 0), leg(api.MaxStop, 0), leg(1, api.MinRate), leg(1, api.MaxRate)}}, api.OK},
		{api.Run{Legs: []api.Leg{leg(0, 0)}}, api.ErrArg}, {api.Run{Legs: []api.Leg{leg(-1, 0)}}, api.ErrArg}, {api.Run{Legs: []api.Leg{leg(api.MaxStop+1, 0)}}, api.ErrArg}, {api.Run{Legs: []api.Leg{leg(minInt, 0)}}, api.ErrArg}, {api.Run{Legs: []api.Leg{leg(maxInt, api.MaxRate)}}, api.ErrArg},
		{api.Run{Legs: []api.Leg{leg(1, 1)}}, api.ErrArg}, {api.Run{Legs: []api.Leg{leg(1, -1)}}, api.ErrArg}, {api.Run{Legs: []api.Leg{leg(1, api.MinRate-1)}}, api.ErrArg}, {api.Run{Legs: []api.Leg{leg(1, api.MaxRate+1)}}, api.ErrArg}, {api.Run{Legs: []api.Leg{leg(1, minInt)}}, api.ErrArg}, {api.Run{Legs: []api.Leg{leg(1, maxInt)}}, api.ErrArg}, {api.Run{Legs: []api.Leg{leg(9, api.Million), leg(9, 1)}}, api.ErrArg},
		{api.Run{Start: api.MaxTime - 9, Legs: []api.Leg{leg(9, 0)}}, api.OK}, {api.Run{Start: api.MaxTime - 9, Legs: []api.Leg{leg(10, 0)}}, api.ErrArg}, {api.Run{Start: api.MaxTime - 9, Legs: []api.Leg{leg(5, 0), leg(5, 0)}}, api.ErrArg},
		{api.Run{Legs: []api.Leg{leg(36000, api.Million), leg(7199, api.Million)}}, api.OK}, {api.Run{Legs: []api.Leg{leg(36000, api.Million), leg(7200, api.Million)}}, api.ErrArg},
		{api.Run{Micro: 43198999999, Legs: []api.Leg{leg(1, api.Million)}}, api.OK}, {api.Run{Micro: 43199000000, Legs: []api.Leg{leg(1, api.Million)}}, api.ErrArg}, {api.Run{Micro: 43199999999, Legs: []api.Leg{leg(1, 0)}}, api.OK},
		{api.Run{Legs: slices.Repeat([]api.Leg{leg(api.MaxStop, api.MaxRate)}, api.MaxLegs)}, api.ErrArg},
	} {
		if e := clock.CheckRun(c.x); e != c.e {
			t.Error(k, e, "not", c.e)
		}
		if pos, e := clock.Needle(c.x, -1); c.e != api.OK && (e != c.e || pos != 0) || c.e == api.OK && e != api.ErrRange {
			t.Error("Needle", k, pos, e)
		}
	}
}

func TestP2_12Needle(t *testing.T) {
	x := api.Run{Start: 1000, Micro: 500000, Legs: []api.Leg{leg(3, 1100000), leg(2, 0), leg(4, 900000)}}
	for k, want := range []int{0, 1, 2, 3, 3, 3, 4, 5, 6, 7} { // 0.5, 1.6, 2.7, 3.8, 3.8, 3.8, 4.7, 5.6, 6.5, 7.4
		if pos, e := clock.Needle(x, 1000+k); pos != want || e != api.OK {
			t.Error(k, pos, e)
		}
	}
	for _, at := range []int{999, 1010, -1, 0, minInt, maxInt} {
		if pos, e := clock.Needle(x, at); pos != 0 || e != api.ErrRange {
			t.Error(at, pos, e)
		}
	}
	if pos, e := clock.Needle(api.Run{Start: 7, Micro: 5999999}, 7); pos != 5 || e != api.OK {
		t.Error("a run without legs:", pos, e)
	}
	if pos, e := clock.Needle(api.Run{Micro: 42e9, Legs: []api.Leg{leg(1199, api.Million)}}, 1199); pos != api.MaxPos || e != api.OK {
		t.Error("the last position:", pos, e)
	}
	c := chance(12)
	for range 100 {
		x, _ := c.run(span(api.MinRate, api.MaxRate))
		for range 20 {
			at := c.from(x.Start, endOf(x))
			if pos, e := clock.Needle(x, at); pos != needleAt(x, at)/api.Million || e != api.OK {
				t.Error("Needle", x, at, pos, e)
			}
		}
	}
}

// playing returns a session, and a run that plays it: 3 seconds at 0.95, 20 seconds of rest at 52, and 30 seconds at 1.05.
func playing() (api.Session, api.Run) {
	s := api.Session{ID: 1, In: span(1000, 1005), Out: span(1050, 1060), Zero: span(48, 50), End: span(83, 90), Rate: span(950000, 1050000), Stops: []api.Stop{{At: 52, Secs: span(20, 25)}, {At: 60, Secs: span(0, 9)}}}
	return s, api.Run{Start: 1000, Micro: 50000000, Legs: []api.Leg{leg(3, 950000), leg(20, 0), leg(30, 1050000)}} // from 50 to 52.85 and 84.35, from 1000 to 1053
}

func TestP2_13(t *testing.T) {
	for k, c := range []struct {
		edit func(s *api.Session, x *api.Run)
		e    api.Errno
	}{
		{func(s *api.Session, x *api.Run) {}, api.OK},
		{func(s *api.Session, x *api.Run) { x.Start = 999 }, api.ErrProof}, {func(s *api.Session, x *api.Run) { x.Start = 1006 }, api.ErrProof}, {func(s *api.Session, x *api.Run) { x.Start = 1005 }, api.OK},
		{func(s *api.Session, x *api.Run) { s.Out = span(1054, 1060) }, api.ErrProof}, {func(s *api.Session, x *api.Run) { s.Out = span(1053, 1053) }, api.OK}, {func(s *api.Session, x *api.Run) { s.Out = span(1000, 1052) }, api.ErrProof},
		{func(s *api.Session, x *api.Run) { s.Zero = span(48, 49) }, api.ErrProof}, {func(s *api.Session, x *api.Run) { s.Zero = span(51, 51) }, api.ErrProof}, {func(s *api.Session, x *api.Run) { s.Zero = span(50, 50) }, api.OK}, {func(s *api.Session, x *api.Run) { s.Zero = span(51, 52) }, api.ErrArg},
		{func(s *api.Session, x *api.Run) { s.End = span(84, 84) }, api.OK}, {func(s *api.Session, x *api.Run) { s.End = span(85, 85) }, api.ErrProof}, {func(s *api.Session, x *api.Run) { s.End = span(83, 83) }, api.ErrProof},
		{func(s *api.Session, x *api.Run) { s.Rate.Lo++ }, api.ErrProof}, {func(s *api.Session, x *api.Run) { s.Rate.Hi-- }, api.ErrProof},
		{func(s *api.Session, x *api.Run) { s.Stops[0].At = 53 }, api.ErrProof}, {func(s *api.Session, x *api.Run) { s.Stops[0].At = 51 }, api.ErrProof}, {func(s *api.Session, x *api.Run) { s.Stops = nil }, api.ErrProof}, {func(s *api.Session, x *api.Run) { s.Stops = s.Stops[1:] }, api.ErrProof},
		{func(s *api.Session, x *api.Run) { s.Stops[0].Secs = span(0, 19) }, api.ErrProof}, {func(s *api.Session, x *api.Run) { s.Stops[0].Secs = span(20, 20) }, api.OK}, {func(s *api.Session, x *api.Run) { s.Stops[0].Secs = span(21, 99) }, api.ErrProof},
		{func(s *api.Session, x *api.Run) { s.Stops[1].Secs.Lo = 1 }, api.ErrProof}, {func(s *api.Session, x *api.Run) { s.Stops = s.Stops[:1] }, api.OK},
		// Two rests at one position, the second one a bit farther on, and one at another stop.
		{func(s *api.Session, x *api.Run) { x.Legs = slices.Insert(x.Legs, 2, leg(5, 0)) }, api.OK}, {func(s *api.Session, x *api.Run) { x.Legs = slices.Insert(x.Legs, 2, leg(6, 0)) }, api.ErrProof},
		{func(s *api.Session, x *api.Run) {
			x.Micro = 49100000 // 51.95, and 52.9 after a further second
			x.Legs = slices.Insert(x.Legs, 2, leg(1, 950000), leg(2, 0))
		}, api.ErrProof},
		{func(s *api.Session, x *api.Run) {
			x.Micro = 49200000 // 52.05, and 53 after a further second
			x.Legs = slices.Insert(x.Legs, 2, leg(1, 950000), leg(2, 0))
		}, api.ErrProof},
		{func(s *api.Session, x *api.Run) {
			x.Micro = 49150000 // 52.0, and 52.95 after a further second
			x.Legs = slices.Insert(x.Legs, 2, leg(1, 950000), leg(5, 0))
		}, api.OK},
		{func(s *api.Session, x *api.Run) {
			x.Micro = 49150000
			x.Legs = slices.Insert(x.Legs, 2, leg(1, 950000), leg(6, 0))
		}, api.ErrProof},
		{func(s *api.Session, x *api.Run) { x.Legs = append(x.Legs, leg(1, 0)) }, api.ErrProof}, {func(s *api.Session, x *api.Run) { x.Legs = slices.Insert(x.Legs, 0, leg(1, 0)) }, api.ErrProof},
		// The errors of the session come first, then those of the run.
		{func(s *api.Session, x *api.Run) { s.ID = 0; x.Legs = make([]api.Leg, 41) }, api.ErrArg}, {func(s *api.Session, x *api.Run) { s.Stops = make([]api.Stop, 5); x.Start = -1 }, api.ErrLimit}, {func(s *api.Session, x *api.Run) { x.Legs = make([]api.Leg, 41) }, api.ErrLimit}, {func(s *api.Session, x *api.Run) { x.Legs[0].Secs = 0; s.In = span(0, 0) }, api.ErrArg},
	} {
		s, x := playing()
		c.edit(&s, &x)
		if e := clock.Plays(s, x); e != c.e {
			t.Error(k, e, "not", c.e)
		}
	}
	for k, s := range badSessions() {
		if e := clock.Plays(s, api.Run{}); e != api.ErrArg {
			t.Error("session", k, e)
		}
	}
	if e := clock.Plays(api.Session{ID: 1, Rate: span(api.Million, api.Million)}, api.Run{}); e != api.OK {
		t.Error("a run without legs:", e)
	}
}
