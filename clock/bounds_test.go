package clock_test

import (
	"slices"
	"testing"

	"patrol/api"
	"patrol/clock"
)

// wildRecords returns records, and for each one its bounds, or nil if it is not consistent.
func wildRecords(seed chance, n, strikes, sights int) ([]api.Record, [][][]int) {
	c := seed
	records := []api.Record{exampleRecord(), fullRecord(), {Session: exampleSession()}, contradiction()}
	for range n {
		records = append(records, c.record(strikes, sights))
	}
	var all [][][]int
	for _, r := range records {
		rows, _ := definedBounds(r)
		all = append(all, rows)
	}
	return records, all
}

// TestErrClash checks which functions return ErrClash for a record that is not consistent, and that their other errors come first.
func TestErrClash(t *testing.T) {
	none := map[string]bool{"Check": true, "Nodes": true, "Links": true, "Clash": true, "Suspects": true, "Fits": true, "Without": true, "CheckPath": true}
	behind := map[string]api.Errno{"Between": api.ErrArg, "When": api.ErrRange, "Fits": api.ErrArg, "Path": api.ErrArg, "CheckPath": api.ErrArg, "Needed": api.ErrArg, "CheckClash": api.ErrLimit, "CheckTimes": api.ErrProof}
	for name, got := range calls(contradiction(), false) {
		want := api.ErrClash
		if none[name] {
			want = api.OK
		} else if name == "CheckTimes" || name == "CheckClash" {
			want = api.ErrProof
		}
		if got.e != want || want != api.OK && !got.zero {
			t.Error(name, got, "not", want)
		}
	}
	for _, r := range []api.Record{contradiction(), exampleRecord()} {
		got := calls(r, true)
		for name, want := range behind {
			if got[name].e != want || !got[name].zero {
				t.Error(name, got[name], "not", want)
			}
		}
	}
}

func TestP2_4(t *testing.T) {
	records, all := wildRecords(4, 120, 6, 4)
	clashes := 0
	for k, r := range records {
		want := api.OK
		if all[k] == nil {
			want = api.ErrClash
			clashes++
		}
		rows, e := clock.Tight(r)
		if e != want || len(rows) != len(all[k]) {
			t.Fatal("Tight", r, e, len(rows))
		}
		for u := range rows {
			same(t, "a row of Tight", rows[u], all[k][u])
		}
	}
	if clashes < 20 || clashes > len(records)-40 {
		t.Error("not an even test:", clashes)
	}
}

// TestP2_4Small has bounds that were found by hand: a dial is in for 20 seconds, or for one less or more. The nodes are the origin, in, out, and the arrivals at 0, 1, 20 and 21.
func TestP2_4Small(t *testing.T) {
	r := api.Record{Session: api.Session{ID: 1, In: span(100, 110), Out: span(120, 150), Zero: span(0, 0), End: span(20, 20), Rate: span(api.Million, api.Million)}}
	rows, e := clock.Tight(r)
	if e != api.OK || len(rows) != 7 {
		t.Fatal(e, rows)
	}
	for k, want := range [][]int{
		{0, 110, 131, 110, 111, 130, 131},
		{-100, 0, 21, 0, 1, 20, 21},
		{-120, -19, 0, -20, -19, 0, 1},
		{-99, 1, 21, 0, 1, 20, 21},
		{-100, 0, 20, -1, 0, 19, 20},
		{-119, -19, 1, -20, -19, 0, 1},
		{-120, -20, 0, -21, -20, -1, 0},
	} {
		same(t, "a row", rows[k], want)
	}
}

func TestP2_5(t *testing.T) {
	records, all := wildRecords(5, 120, 8, 5)
	for k, r := range records {
		want := api.ErrClash
		in, out, spans := api.Span{}, api.Span{}, []api.Span(nil)
		if rows := all[k]; rows != nil {
			want = api.OK
			in, out = timesIn(rows, 1), timesIn(rows, 2)
			for n := range r.Strikes {
				spans = append(spans, timesIn(rows, 3+n))
			}
		}
		got, e := clock.Spans(r)
		same(t, "Spans", got, spans)
		x, f := clock.Inserted(r)
		y, g := clock.Removed(r)
		if x != in || y != out || e != want || f != want || g != want {
			t.Error("Inserted, Removed", x, y, "not", in, out, e, f, g)
		}
		for a := range r.Strikes {
			for b := range r.Strikes {
				gap := api.Span{}
				if rows := all[k]; rows != nil {
					gap = span(-rows[3+b][3+a], rows[3+a][3+b])
				}
				if got, e := clock.Between(r, a, b); got != gap || e != want {
					t.Error("Between", a, b, got, e, "not", gap)
				}
			}
		}
	}
}

func TestP2_5BetweenErrors(t *testing.T) {
	r := exampleRecord()
	for k, c := range [][2]int{{-1, 0}, {0, -1}, {2, 0}, {0, 2}, {2, 2}, {minInt, 0}, {0, maxInt}, {maxInt, minInt}} {
		for _, r := range []api.Record{r, contradiction()} {
			if x, e := clock.Between(r, c[0], c[1]); e != api.ErrArg || x != (api.Span{}) {
				t.Error(k, x, e)
			}
		}
	}
	if _, e := clock.Between(api.Record{Session: exampleSession()}, 0, 0); e != api.ErrArg {
		t.Error("without strikes:", e)
	}
	if x, e := clock.Between(r, 1, 1); x != span(0, 0) || e != api.OK {
		t.Error("from a strike to itself:", x, e)
	}
	if x, e := clock.Between(r, 1, 0); x != span(-1006, -999) || e != api.OK {
		t.Error("backwards:", x, e)
	}
}

func TestP2_6(t *testing.T) {
	c := chance(6)
	records, all := wildRecords(66, 60, 5, 4)
	for k, r := range records {
		lo, hi := r.Session.Zero.Lo, r.Session.End.Hi+1
		for _, pos := range []int{lo, hi, lo + 1, hi - 1, r.Session.Zero.Hi + 1, r.Session.End.Lo, c.from(lo, hi), c.from(lo, hi)} {
			x, e := clock.When(r, pos)
			if all[k] == nil {
				if e != api.ErrClash || x != (api.Span{}) {
					t.Error("When", pos, x, e)
				}
				continue
			}
			rows, _ := definedBounds(r, pos)
			node := slices.Index(definedNodes(r, pos), api.Node{Kind: api.NoArrive, N: pos})
			if want := timesIn(rows, node); x != want || e != api.OK {
				t.Error("When", pos, x, e, "not", want)
			}
		}
		for _, pos := range []int{lo - 1, hi + 1, -1, api.MaxPos + 2, minInt, maxInt} {
			if x, e := clock.When(r, pos); e != api.ErrRange || x != (api.Span{}) {
				t.Error("When", pos, x, e)
			}
		}
	}
}

// TestP2_6Imagined has arrivals outside of the time in which the dial is in the clock.
func TestP2_6Imagined(t *testing.T) {
	s := api.Session{ID: 1, In: span(0, 0), Out: span(api.MaxTime-40000, api.MaxTime), Zero: span(50, 60), End: span(60, api.MaxPos), Rate: span(api.Million, api.Million)}
	r := api.Record{Session: s}
	if _, e := clock.When(r, 55); e != api.ErrClash {
		t.Error("of a dial that was in for too long:", e)
	}
	s.Out = span(10, api.MaxTime)
	for pos, want := range map[int]api.Span{50: span(-11, 0), 55: span(-6, 5), 61: span(0, 11), 60: span(-1, 10), api.MaxPos + 1: span(43139, 43150)} {
		if x, e := clock.When(api.Record{Session: s}, pos); x != want || e != api.OK {
			t.Error(pos, x, e, "not", want)
		}
	}
	s.In, s.Out = span(api.MaxTime-5, api.MaxTime), span(api.MaxTime, api.MaxTime)
	for pos, want := range map[int]api.Span{50: span(api.MaxTime-16, api.MaxTime-10), 61: span(api.MaxTime-5, api.MaxTime+1), api.MaxPos + 1: span(api.MaxTime+43134, api.MaxTime+43140)} {
		if x, e := clock.When(api.Record{Session: s}, pos); x != want || e != api.OK {
			t.Error(pos, x, e, "not", want)
		}
	}
}

// keeps is the definition of a timing.
func keeps(r api.Record, times []int) bool {
	if len(times) != len(definedNodes(r)) || times[0] != 0 {
		return false
	}
	for _, l := range definedLinks(r) {
		if times[l.To]-times[l.From] > l.Most {
			return false
		}
	}
	return true
}

func TestP2_7(t *testing.T) {
	records, all := wildRecords(7, 100, 5, 4)
	c := chance(77)
	for k, r := range records {
		first, e := clock.First(r)
		last, f := clock.Last(r)
		if all[k] == nil {
			if e != api.ErrClash || f != api.ErrClash || len(first)+len(last) > 0 {
				t.Error("First, Last", first, last, e, f)
			}
			continue
		}
		for n := range all[k] {
			if x := timesIn(all[k], n); e != api.OK || f != api.OK || first[n] != x.Lo || last[n] != x.Hi {
				t.Fatal("First, Last", n, first[n], last[n], e, f, "not", x)
			}
		}
		for _, times := range [][]int{first, last} {
			if e := clock.CheckTimes(r, times); e != api.OK {
				t.Error("CheckTimes", r, times, e)
			}
			for n := range times {
				by := c.pick(-1, 1, c.from(-30, 30))
				times[n] += by
				if e := clock.CheckTimes(r, times); (e == api.OK) != keeps(r, times) || e != api.OK && e != api.ErrProof {
					t.Error("CheckTimes", r, times, e)
				}
				if c.n(2) == 0 {
					times[n] -= by
				}
			}
		}
	}
}

func TestP2_7Errors(t *testing.T) {
	r := exampleRecord()
	times, _ := clock.First(r)
	edit := func(f func(l []int) []int) []int { return f(slices.Clone(times)) }
	for k, l := range [][]int{
		nil, {0}, times[:len(times)-1], edit(func(l []int) []int { return append(l, 4000) }),
		edit(func(l []int) []int {
			for n := range l {
				l[n]++
			}
			return l
		}),
		edit(func(l []int) []int { l[0] = 1; return l }), edit(func(l []int) []int { l[0] = -1; return l }),
		edit(func(l []int) []int { l[3] = minInt; return l }), edit(func(l []int) []int { l[3] = maxInt; return l }),
		edit(func(l []int) []int { l[6], l[7] = minInt, maxInt; return l }), edit(func(l []int) []int { l[6], l[7] = maxInt, minInt; return l }),
		slices.Repeat([]int{minInt}, len(times)), slices.Repeat([]int{maxInt}, len(times)), make([]int, len(times)),
	} {
		if e := clock.CheckTimes(r, l); e != api.ErrProof {
			t.Error(k, e)
		}
	}
	if e := clock.CheckTimes(r, times); e != api.OK {
		t.Error(e)
	}
}

// exactly returns a record with a further sight of each strike at one second; such sights are what Fits is asked for.
func exactly(r api.Record, strikes []int) api.Record {
	r = copyOf(r)
	for k, at := range strikes {
		r.Sights = append(r.Sights, sight(r.Strikes[k].ID, at, at))
	}
	return r
}

func TestP2_8(t *testing.T) {
	c := chance(8)
	records, all := wildRecords(88, 150, 6, 4)
	fit, not := 0, 0
	for k, r := range records {
		if len(r.Sights)+len(r.Strikes) > api.MaxSights {
			continue
		}
		start := make([]int, len(r.Strikes))
		if all[k] != nil {
			first, _ := clock.First(r)
			last, _ := clock.Last(r)
			copy(start, c.lists(first, last)[3:])
		}
		for range 12 {
			fits := hasTiming(exactly(r, start))
			if got, e := clock.Fits(r, start); got != fits || e != api.OK {
				t.Error("Fits", r, start, got, e)
			}
			if fits {
				fit++
			} else {
				not++
			}
			if len(start) == 0 {
				break
			}
			n := c.n(len(start))
			start[n] = max(0, start[n]+c.pick(-1, 1, c.from(-20, 20)))
		}
	}
	if fit < 100 || not < 100 {
		t.Error("not an even test:", fit, not)
	}
}

// lists returns one of two lists.
func (c *chance) lists(a, b []int) []int {
	if c.n(2) == 0 {
		return a
	}
	return b
}

func TestP2_8Errors(t *testing.T) {
	for _, r := range []api.Record{exampleRecord(), contradiction()} {
		for k, l := range [][]int{nil, {2000}, {2000, 3000, 3000}, {-1, 3000}, {2000, -1}, {2000, api.MaxTime + 1}, {api.MaxTime + 1, 3000}, {minInt, maxInt}, {maxInt, minInt}} {
			if is, e := clock.Fits(r, l); is || e != api.ErrArg {
				t.Error(k, is, e)
			}
		}
		for k, l := range [][]int{{0, api.MaxTime}, {api.MaxTime, 0}, {0, 0}, {api.MaxTime, api.MaxTime}, {3000, 2000}, {2150, 3150}} {
			if is, e := clock.Fits(r, l); is || e != api.OK {
				t.Error(k, is, e)
			}
		}
	}
	none := api.Record{Session: exampleSession()}
	if is, e := clock.Fits(none, nil); !is || e != api.OK {
		t.Error("without strikes:", is, e)
	}
	none.Session.Out = span(1000, 1000)
	if is, e := clock.Fits(none, nil); is || e != api.OK {
		t.Error("without strikes, not consistent:", is, e)
	}
}
