package clock_test

import (
	"slices"
	"testing"

	"patrol/api"
	"patrol/clock"
)

func has(x api.Span, n int) bool { return x.Lo <= n && n <= x.Hi }

func TestP2_14(t *testing.T) {
	c := chance(14)
	stops := 0
	for range 1500 {
		w := c.night(api.MaxStrikes, api.MaxSights)
		stops += len(w.r.Session.Stops)
		if e, f, g := clock.Check(w.r), clock.CheckRun(w.x), clock.Plays(w.r.Session, w.x); e != api.OK || f != api.OK || g != api.OK {
			t.Fatal("not a true night:", e, f, g, w)
		}
		for k, at := range w.at {
			if pos, e := clock.Needle(w.x, at); e != api.OK || !has(w.r.Strikes[k].Pos, pos) {
				t.Fatal("Needle", w, pos, e)
			}
		}
		if cycle, is, e := clock.Clash(w.r); is || e != api.OK {
			t.Fatal("Clash", w, cycle, e)
		}
		if is, e := clock.Fits(w.r, w.at); !is || e != api.OK {
			t.Fatal("Fits", w, is, e)
		}
		spans, e := clock.Spans(w.r)
		in, f := clock.Inserted(w.r)
		out, g := clock.Removed(w.r)
		if e != api.OK || f != api.OK || g != api.OK || len(spans) != len(w.at) || !has(in, w.x.Start) || !has(out, endOf(w.x)) {
			t.Fatal("Spans, Inserted, Removed", w, spans, in, out, e, f, g)
		}
		for k, x := range spans {
			if !has(x, w.at[k]) {
				t.Fatal("Spans", w, k, x)
			}
		}
	}
	if stops < 500 {
		t.Error("not an even test:", stops)
	}
}

func TestP2_15(t *testing.T) {
	c := chance(15)
	clashes := 0
	for range 200 {
		r := c.record(6, 4)
		links := definedLinks(r)
		times := make([]int, len(definedNodes(r)))
		for k := range times {
			times[k] = c.from(0, 3000)
		}
		times[0] = 0
		cycle, is, _ := clock.Clash(r)
		if e := clock.CheckClash(r, cycle); is != (e == api.OK) || is == hasTiming(r) {
			t.Error("CheckClash", r, cycle, is, e)
		}
		if is {
			clashes++
			strikes := times[3 : 3+len(r.Strikes)]
			slices.Sort(strikes)
			if fits, e := clock.Fits(r, strikes); fits || e != api.OK {
				t.Error("Fits", r, fits, e)
			}
			if e := clock.CheckTimes(r, times); e != api.ErrProof {
				t.Error("CheckTimes", r, e)
			}
			continue
		}
		first, _ := clock.First(r)
		last, _ := clock.Last(r)
		for range 20 { // walks from node to node, by chance
			from := c.n(len(times))
			to := from
			var path []int
			for range c.n(60) {
				k := c.n(len(links))
				for links[k].From != to {
					k = (k + 1) % len(links)
				}
				path, to = append(path, k), links[k].To
			}
			length, e := clock.CheckPath(r, from, to, path)
			if e != api.OK || first[to]-first[from] > length || last[to]-last[from] > length {
				t.Error("CheckPath", r, path, length, e)
			}
		}
	}
	if clashes < 20 {
		t.Error("not an even test:", clashes)
	}
}

// TestP2_15Proofs proves both ends of Spans and of Between by walks.
func TestP2_15Proofs(t *testing.T) {
	c := chance(151)
	for range 60 {
		r := c.night(6, 4).r
		length := func(from, to int) int {
			path, e := clock.Path(r, from, to)
			n, f := clock.CheckPath(r, from, to, path)
			if e != api.OK || f != api.OK {
				t.Error("Path", r, from, to, path, e, f)
			}
			return n
		}
		spans, _ := clock.Spans(r)
		for k, x := range spans {
			if x != span(-length(3+k, 0), length(0, 3+k)) {
				t.Error("Spans", r, k, x)
			}
			for n := range spans {
				if x, e := clock.Between(r, k, n); e != api.OK || x != span(-length(3+n, 3+k), length(3+k, 3+n)) {
					t.Error("Between", r, k, n, x)
				}
			}
		}
	}
}

func TestP2_16(t *testing.T) {
	c := chance(16)
	for range 200 {
		r := c.night(api.MaxStrikes, api.MaxSights).r
		first, e := clock.First(r)
		last, f := clock.Last(r)
		spans, _ := clock.Spans(r)
		for _, times := range [][]int{first, last} {
			strikes := times[3 : 3+len(r.Strikes)]
			if is, g := clock.Fits(r, strikes); e != api.OK || f != api.OK || clock.CheckTimes(r, times) != api.OK || !is || g != api.OK {
				t.Error("First, Last", r, times, e, f, is, g)
			}
		}
		for k, x := range spans {
			if x != span(first[3+k], last[3+k]) {
				t.Error("Spans", r, k, x)
			}
			for _, out := range []int{x.Lo - 1, x.Hi + 1} {
				strikes := slices.Clone(first[3 : 3+len(r.Strikes)])
				strikes[k] = out
				if is, _ := clock.Fits(r, strikes); is {
					t.Error("Fits outside of a span", r, k, out)
				}
			}
		}
		rows, _ := clock.Tight(r)
		for u := range rows {
			for v := range rows {
				for w := range rows {
					if rows[u][w] > rows[u][v]+rows[v][w] {
						t.Fatal("the triangle", r, u, v, w)
					}
				}
			}
		}
		links, _ := clock.Links(r)
		for _, l := range links {
			if rows[l.From][l.To] > l.Most {
				t.Error("a link", r, l)
			}
		}
	}
}

// narrower returns a part of a span.
func (c *chance) narrower(x api.Span) api.Span {
	lo := c.pick(x.Lo, min(x.Lo+1, x.Hi), c.from(x.Lo, x.Hi))
	return span(lo, c.pick(x.Hi, max(x.Hi-1, lo), c.from(lo, x.Hi)))
}

// knowsMore returns a record of which something more is known.
func (c *chance) knowsMore(r api.Record) api.Record {
	r = copyOf(r)
	s := &r.Session
	spans := []*api.Span{&s.In, &s.Out, &s.Zero, &s.End, &s.Rate}
	for k := range s.Stops {
		spans = append(spans, &s.Stops[k].Secs)
	}
	for k := range r.Strikes {
		spans = append(spans, &r.Strikes[k].Pos)
	}
	for k := range r.Sights {
		spans = append(spans, &r.Sights[k].At)
	}
	if len(r.Strikes) > 0 && c.n(8) == 0 {
		at := s.In.Lo + c.n(1500)
		r.Sights = append(r.Sights, api.Sight{Strike: r.Strikes[c.n(len(r.Strikes))].ID, At: span(at, at+c.n(1000))})
		return r
	}
	x := spans[c.n(len(spans))]
	*x = c.narrower(*x)
	return r
}

func TestP2_17More(t *testing.T) {
	c := chance(17)
	compared, clashes := 0, 0
	for range 3000 {
		r := c.record(6, 4)
		more := c.knowsMore(r)
		if clock.Check(more) != api.OK {
			continue
		}
		wide, e := clock.Spans(r)
		spans, f := clock.Spans(more)
		if e != api.OK {
			clashes++
			if e != api.ErrClash || f != api.ErrClash {
				t.Error("a record that was not consistent", r, more, e, f)
			}
			continue
		}
		for k := range spans {
			compared++
			if spans[k].Lo < wide[k].Lo || spans[k].Hi > wide[k].Hi {
				t.Error("a wider span", r, more, k, spans[k], wide[k])
			}
		}
	}
	if compared < 500 || clashes < 100 {
		t.Error("not an even test:", compared, clashes)
	}
}

func TestP2_17Less(t *testing.T) {
	c := chance(171)
	compared, clashes := 0, 0
	for range 1000 {
		r := c.record(6, 4)
		if len(r.Strikes) == 0 {
			continue
		}
		gone := c.n(len(r.Strikes))
		less, _ := clock.Without(r, []int{r.Strikes[gone].ID})
		spans, e := clock.Spans(r)
		wide, f := clock.Spans(less)
		if e != api.OK {
			clashes++
			continue
		}
		if f != api.OK {
			t.Error("without a strike there is no timing", r, gone, f)
			continue
		}
		for k, x := range slices.Delete(spans, gone, gone+1) {
			compared++
			if x.Lo < wide[k].Lo || x.Hi > wide[k].Hi {
				t.Error("a narrower span", r, gone, k, wide[k], x)
			}
		}
	}
	if compared < 300 || clashes < 100 {
		t.Error("not an even test:", compared, clashes)
	}
}

func TestP2_18(t *testing.T) {
	c := chance(18)
	for range 300 {
		r := c.record(6, api.MaxSights)
		other := copyOf(r)
		slices.Reverse(other.Sights)
		if n := len(other.Sights); n > 1 {
			k := c.n(n)
			other.Sights[0], other.Sights[k] = other.Sights[k], other.Sights[0]
		}
		spans, e := clock.Spans(r)
		got, f := clock.Spans(other)
		same(t, "Spans", got, spans)
		if e != f {
			t.Error("Spans", r, e, f)
		}
	}
}
