package round_test

import (
	"slices"
	"testing"

	"patrol/api"
	"patrol/round"
)

func TestP5_11(t *testing.T) {
	refuted, clashes, none := 0, 0, 0
	tries(511, 150, func(_ *chance, x tried) {
		for _, l := range definedSequences(x.Case) {
			p, e := round.Refute(x.Case, l)
			if len(of(x.all, l)) > 0 {
				none++
				if e != api.ErrNone || len(p) > 0 {
					t.Error("Refute", x.Case, l, p, e)
				}
				continue
			}
			refuted++
			if len(p) == 0 {
				clashes++
			}
			if e != api.OK || len(p) > api.MaxRaises || !definedAccepts(x.Case, l, p) || round.CheckRefute(x.Case, l, p) != api.OK {
				t.Error("Refute", x.Case, l, p, e)
			}
		}
	})
	if min(refuted, none) < 100 || clashes < 20 {
		t.Error("not an even test:", refuted, clashes, none)
	}
}

// spoil changes a list of raises of a sequence.
func (c *chance) spoil(p []api.Raise, visits int) []api.Raise {
	p = slices.Clone(p)
	any := api.Raise{Visit: c.from(-1, visits), By: c.from(-4, visits), To: c.pick(0, noon, noon+110, noon+120, api.Never)}
	if len(p) == 0 {
		return append(p, any)
	}
	k := c.n(len(p))
	switch c.n(7) {
	case 0:
		return slices.Delete(p, k, k+1)
	case 1:
		return p[:k]
	case 2:
		p[k].By = c.from(-4, visits)
	case 3:
		p[k].Visit = c.from(-1, visits)
	case 4:
		p[k].To += c.from(-2, 2)
	case 5:
		p[len(p)-1].To += c.from(-1, 1)
	case 6:
		return slices.Insert(p, k, any)
	}
	return p
}

// TestP5_11Check compares CheckRefute with the definition for lists that are wrong by a little, and for sequences that have a timing.
func TestP5_11Check(t *testing.T) {
	yes, no, timed := 0, 0, 0
	tries(5110, 150, func(c *chance, x tried) {
		all := definedSequences(x.Case)
		if len(all) == 0 {
			return
		}
		l := all[c.n(len(all))]
		p, e := round.Refute(x.Case, l)
		for range 12 {
			spoilt := c.spoil(p, len(l))
			is := definedAccepts(x.Case, l, spoilt)
			if f := round.CheckRefute(x.Case, l, spoilt); is != (f == api.OK) || !is && f != api.ErrProof {
				t.Error("CheckRefute", x.Case, l, spoilt, is, f)
			}
			switch {
			case e != api.OK:
				timed++
				p = spoilt
				if is {
					t.Error("a refutation of a sequence with a timing", x.Case, l, spoilt)
				}
			case is:
				yes++
			default:
				no++
			}
		}
	})
	if min(yes, no, timed) < 150 {
		t.Error("not an even test:", yes, no, timed)
	}
}

// checked is a list of raises, and what CheckRefute returns for it.
type checked struct {
	p []api.Raise
	e api.Errno
}

// check checks what CheckRefute returns for lists of raises.
func check(t *testing.T, c api.Case, l []api.Read, all []checked) {
	t.Helper()
	for _, x := range all {
		if e := round.CheckRefute(c, l, x.p); e != x.e || (e == api.OK) != definedAccepts(c, l, x.p) {
			t.Error("CheckRefute", x.p, e, x.e)
		}
	}
}

// hurried is a sequence of the example in which the loft is struck, 30 seconds away, at most 2 seconds behind the mill.
func hurried() []api.Read { return reads(0, 0, 1, 1, 1, 2, 2, 2) }

func TestP5_11Reasons(t *testing.T) {
	good := []int{1, api.ByClock, 31099, 2, api.ByWalk, 31129}
	then := func(l ...int) []api.Raise { return raises(append(slices.Clone(good), l...)...) }
	ahead := func(l ...int) []api.Raise { return raises(append(l, good...)...) }
	check(t, exampleCase(), hurried(), []checked{
		{raises(good...), api.OK},
		{nil, api.ErrProof},
		{raises(good[:3]...), api.ErrProof},
		{raises(good[3:]...), api.ErrProof},
		{raises(1, api.ByClock, 31072, 2, api.ByWalk, 31102), api.OK},
		{raises(1, api.ByClock, 31072, 2, api.ByWalk, 31103), api.ErrProof},
		{raises(1, api.ByClock, 31072, 2, api.ByWalk, 31101), api.ErrProof},
		{raises(1, api.ByClock, 31071, 2, api.ByWalk, 31101), api.ErrProof},
		{raises(1, api.ByClock, 31100, 2, api.ByWalk, 31129), api.ErrProof},
		{raises(1, api.ByClock, 31099, 2, api.ByWalk, 31130), api.ErrProof},
		{raises(1, api.ByClock, 31099, 1, api.ByClock, 7, 2, api.ByWalk, 31129), api.OK}, // bounds never become less
		{then(2, api.ByClock, 7), api.OK},
		{then(0, api.ByClock, minInt), api.OK},
		{then(0, api.ByClock, 30999), api.OK},
		{then(0, api.ByClock, 31000), api.ErrProof},
		{then(0, api.ByStart, 30000), api.OK},
		{then(0, api.ByStart, 30001), api.ErrProof},
		{then(1, api.ByStart, 0), api.ErrProof},
		{then(3, api.ByStart, minInt), api.ErrProof},
		{then(0, api.ByWalk, 0), api.ErrProof},
		{ahead(0, api.ByWalk, minInt), api.ErrProof},
		{then(3, api.ByWalk, 31129), api.OK},
		{then(3, api.ByWalk, 31130), api.ErrProof},
		{ahead(1, api.ByWalk, 60), api.OK}, // bounds are 0 at first
		{ahead(1, api.ByWalk, 61), api.ErrProof},
		{ahead(3, 0, -199), api.OK},
		{ahead(3, 0, 200), api.ErrProof},
		{then(0, 1, 30998), api.OK},
		{then(0, 1, 30999), api.ErrProof},
		{then(0, 2, 31028), api.OK},
		{then(0, 2, 31029), api.ErrProof},
		{then(3, 1, 31198), api.OK},
		{then(3, 1, 31199), api.ErrProof},
		{then(1, 2, 31127), api.OK},
		{then(1, 2, 31127, 2, api.ByWalk, 31157), api.OK},
		{then(1, 2, 31120, 2, api.ByWalk, 31151), api.ErrProof},
		{then(3, 3, 0), api.ErrProof},
		{then(0, 4, minInt), api.ErrProof},
		{then(0, -4, minInt), api.ErrProof},
		{then(0, maxInt, 0), api.ErrProof},
		{then(0, minInt, 0), api.ErrProof},
		{then(-1, api.ByClock, 0), api.ErrProof},
		{then(4, api.ByClock, 0), api.ErrProof},
		{then(maxInt, 0, 0), api.ErrProof},
	})
}

// TestP5_11Never has bounds that are no times.
func TestP5_11Never(t *testing.T) {
	c := with(func(c *api.Case) { c.Start = 2 }) // no way leads from the loft to the gate
	check(t, c, reads(0, 0, 1, 1, 2, 2), []checked{
		{raises(0, api.ByStart, api.Never), api.OK},
		{raises(0, api.ByStart, 31002), api.OK},
		{raises(0, api.ByStart, 31001), api.ErrProof},
		{raises(0, api.ByStart, api.Never+1), api.ErrProof},
		{raises(0, api.ByStart, api.Never, 1, api.ByWalk, 0), api.ErrProof},
		{raises(0, api.ByStart, api.Never, 2, api.ByWalk, 0), api.OK},
		{raises(0, api.ByStart, api.MaxTime, 1, api.ByWalk, api.Never), api.OK},
		{raises(0, api.ByStart, api.MaxTime-60, 1, api.ByWalk, api.MaxTime), api.OK},
		{raises(0, api.ByStart, api.MaxTime-60, 1, api.ByWalk, api.Never), api.ErrProof},
		{raises(0, api.ByStart, api.Never, 1, 0, api.Never+99), api.OK},
		{raises(0, api.ByStart, api.Never, 1, 0, api.Never+100), api.ErrProof},
		{raises(0, api.ByStart, api.Never, 1, 0, api.Never+99, 2, 1, api.Never+198), api.OK},
		{raises(0, api.ByStart, api.Never, 1, 0, api.Never+99, 2, api.ByWalk, 0), api.ErrProof},
	})
	p, e := round.Refute(c, reads(0, 0, 1, 1, 2, 2))
	if e != api.OK || round.CheckRefute(c, reads(0, 0, 1, 1, 2, 2), p) != api.OK {
		t.Error("Refute", p, e)
	}
}

// TestP5_11Many has as many raises as a refutation can have.
func TestP5_11Many(t *testing.T) {
	p := slices.Repeat(raises(0, api.ByClock, 30999), api.MaxRaises-2)
	p = append(p, raises(1, api.ByClock, 31099, 2, api.ByWalk, 31129)...)
	more := append(slices.Clone(p), raises(0, api.ByClock, 0)...)
	check(t, exampleCase(), hurried(), []checked{{p, api.OK}, {more, api.ErrProof}})
}

// TestP5_11Clash has records that are not consistent: only the empty list refutes their sequences.
func TestP5_11Clash(t *testing.T) {
	c := with(func(c *api.Case) { c.Marks[1].At = arc(900, 0) })
	for _, l := range definedSequences(c) {
		p, e := round.Refute(c, l)
		same(t, "Refute", p, e)
		check(t, c, l, []checked{{nil, api.OK}, {[]api.Raise{}, api.OK}, {raises(1, api.ByClock, 0), api.ErrProof}, {raises(0, api.ByStart, api.Never), api.ErrProof}})
	}
	c = with(func(c *api.Case) { c.Marks, c.Session.Out = nil, span(31000, 31000) })
	p, e := round.Refute(c, nil)
	same(t, "Refute without marks", p, e)
	check(t, c, nil, []checked{{nil, api.OK}, {raises(0, api.ByClock, 0), api.ErrProof}})
	c = with(func(c *api.Case) { c.Marks = nil })
	if p, e := round.Refute(c, nil); e != api.ErrNone || len(p) > 0 {
		t.Error("Refute of the empty reading", p, e)
	}
	check(t, c, nil, []checked{{nil, api.ErrProof}, {raises(0, api.ByClock, 0), api.ErrProof}})
}

// slowCase has a sequence of twelve visits without a timing: the clock says that the last walk, which takes 12 seconds, took 11 at most. So bounds rise second by second, from one end of the widest spans to the other one.
func slowCase() (api.Case, []api.Read) {
	c := exampleCase()
	c.Session.In, c.Session.Out = span(30000, 30000+api.MaxLoose-2), span(39000, 44000)
	c.House = api.House{Rooms: []api.Room{{Name: "a"}, {Name: "b"}, {Name: "c"}}, Ways: []api.Way{{A: 0, B: 1, Secs: 10, Back: 10, Door: -1}, {A: 1, B: 2, Secs: 12, Door: -1}}}
	c.Marks = nil
	var l []api.Read
	for k := range api.MaxStrikes {
		station := (k + 1) % 2
		if k == api.MaxStrikes-1 {
			station = 2
		}
		seen := c.Keys[station].Pattern
		c.Marks = append(c.Marks, api.Mark{At: arc(1000+10*k, 0), Seen: seen, Blank: api.AllPins - seen})
		l = append(l, api.Read{Mark: k, Station: station})
	}
	c.Start, c.Order = 1, sourced("times 1 to 6 each(mill, gate)")
	return c, l
}

func TestP5_11Slow(t *testing.T) {
	c, l := slowCase()
	if e := round.Measure(c); e != api.OK {
		t.Fatal("Measure", e)
	}
	p, e := round.Refute(c, l)
	if e != api.OK || len(p) > api.MaxRaises || len(p) < 2*api.MaxLoose || round.CheckRefute(c, l, p) != api.OK {
		t.Error("Refute", len(p), e)
	}
	verdict(t, "the slow case", c, api.VeVoid)
	c.House.Ways[1].Secs = 11
	first, e := round.First(c, l)
	if e != api.OK || len(first) != len(l) || !isReading(c, api.Reading{Reads: l, Times: first}) {
		t.Error("First", first, e)
	}
}

func TestP5_12(t *testing.T) {
	proved, lists, none := 0, 0, 0
	tries(512, 120, func(c *chance, x tried) {
		for k := range x.Stations {
			var with [][]api.Read
			for _, l := range definedSequences(x.Case) {
				if hasStation(l, k) {
					with = append(with, l)
				}
			}
			p, e := round.Miss(x.Case, k)
			if slices.ContainsFunc(x.all, func(r api.Reading) bool { return hasStation(r.Reads, k) }) {
				none++
				if e != api.ErrNone || len(p) > 0 {
					t.Error("Miss", x.Case, k, p, e)
				}
				empty := make([][]api.Raise, len(with))
				if e := round.CheckMiss(x.Case, k, empty); e != api.ErrProof {
					t.Error("CheckMiss of a station that was not missed", x.Case, k, e)
				}
				continue
			}
			proved++
			lists += len(p)
			if e != api.OK || len(p) != len(with) || round.CheckMiss(x.Case, k, p) != api.OK {
				t.Fatal("Miss", x.Case, k, p, e)
			}
			for n, l := range with {
				if !definedAccepts(x.Case, l, p[n]) {
					t.Error("Miss", x.Case, l, p[n])
				}
			}
			spoilt := slices.Clone(p)
			if len(p) > 0 {
				n := c.n(len(p))
				spoilt[n] = c.spoil(p[n], len(with[n]))
				is := definedAccepts(x.Case, with[n], spoilt[n])
				if e := round.CheckMiss(x.Case, k, spoilt); is != (e == api.OK) || !is && e != api.ErrProof {
					t.Error("CheckMiss", x.Case, k, spoilt, is, e)
				}
				if e := round.CheckMiss(x.Case, k, p[1:]); e != api.ErrProof {
					t.Error("CheckMiss with too few refutations", x.Case, k, e)
				}
			}
			if e := round.CheckMiss(x.Case, k, append(slices.Clone(p), nil)); e != api.ErrProof {
				t.Error("CheckMiss with too many refutations", x.Case, k, e)
			}
		}
	})
	if min(proved, none) < 50 || lists < 100 {
		t.Error("not an even test:", proved, lists, none)
	}
}

// TestP5_12Example proves that the mill was missed, by both sequences that have it.
func TestP5_12Example(t *testing.T) {
	c := with(func(c *api.Case) { c.House.Ways[0].Secs = 102 })
	p, e := round.Miss(c, 1)
	if e != api.OK || len(p) != 3 || round.CheckMiss(c, 1, p) != api.OK {
		t.Fatal("Miss", p, e)
	}
	for _, x := range []struct {
		what string
		p    [][]api.Raise
		e    api.Errno
	}{
		{"the proof", p, api.OK},
		{"in another order", [][]api.Raise{p[0], p[2], p[1]}, api.ErrProof},
		{"one is missing", p[:2], api.ErrProof},
		{"one too many", append(slices.Clone(p), p[0]), api.ErrProof},
		{"the last one is empty", [][]api.Raise{p[0], p[1], nil}, api.ErrProof},
		{"the first one is empty", [][]api.Raise{nil, p[1], p[2]}, api.ErrProof},
		{"none", nil, api.ErrProof},
	} {
		if e := round.CheckMiss(c, 1, x.p); e != x.e {
			t.Error("CheckMiss", x.what, e, x.e)
		}
	}
}

// TestP5_12None has a station that no sequence has.
func TestP5_12None(t *testing.T) {
	c := with(func(c *api.Case) { c.Marks[1].Seen, c.Marks[1].Blank = 64, 63 })
	p, e := round.Miss(c, 1)
	if e != api.OK || len(p) > 0 {
		t.Error("Miss", p, e)
	}
	if e := round.CheckMiss(c, 1, nil); e != api.OK {
		t.Error("CheckMiss", e)
	}
	if e := round.CheckMiss(c, 1, [][]api.Raise{nil}); e != api.ErrProof {
		t.Error("CheckMiss", e)
	}
}
