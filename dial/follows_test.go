package dial_test

import (
	"slices"
	"testing"

	"patrol/api"
	"patrol/dial"
)

// algebra has the operations on sets, of which none may return an error.
type algebra struct{ t *testing.T }

func (g algebra) do(f operation, a, b []api.Arc) []api.Arc {
	g.t.Helper()
	r, e := f(a, b)
	if e != api.OK {
		g.t.Fatal("an error of a set:", a, b, e)
	}
	return r
}
func (g algebra) or(a, b []api.Arc) []api.Arc  { g.t.Helper(); return g.do(dial.Union, a, b) }
func (g algebra) and(a, b []api.Arc) []api.Arc { g.t.Helper(); return g.do(dial.Meet, a, b) }
func (g algebra) not(a []api.Arc) []api.Arc {
	g.t.Helper()
	return g.do(dial.Minus, arcs(0, api.Ring-1), a)
}
func (g algebra) size(a []api.Arc) int {
	n, e := dial.Size(a)
	if e != api.OK {
		g.t.Fatal("an error of a set:", a, e)
	}
	return n
}

// isNormal is the definition of a normal list.
func isNormal(l []api.Arc) bool {
	for n, x := range l {
		if !dial.ValidArc(x) || n > 0 && l[n-1].From >= x.From {
			return false
		}
		next := l[(n+1)%len(l)]
		if len(l) > 1 && dial.Ahead(x.From, next.From) <= x.Len+1 {
			return false
		}
	}
	return true
}

func TestP1_16(t *testing.T) {
	c, g := chance(16), algebra{t}
	whole := arcs(0, api.Ring-1)
	for range 300 {
		var l [3][]api.Arc
		for k := range l {
			l[k], _ = dial.Normal(c.arcs(6))
		}
		x, y, z := l[0], l[1], l[2]
		minus := g.do(dial.Minus, x, y)
		for what, r := range map[string][]api.Arc{"x": x, "or": g.or(x, y), "and": g.and(x, y), "minus": minus, "not": g.not(x)} {
			if !isNormal(r) {
				t.Error("not normal:", what, r)
			}
		}
		same(t, "a normal list", g.or(x, x), x)
		same(t, "or commutes", g.or(x, y), g.or(y, x))
		same(t, "and commutes", g.and(x, y), g.and(y, x))
		same(t, "or associates", g.or(g.or(x, y), z), g.or(x, g.or(y, z)))
		same(t, "and associates", g.and(g.and(x, y), z), g.and(x, g.and(y, z)))
		same(t, "and distributes", g.and(x, g.or(y, z)), g.or(g.and(x, y), g.and(x, z)))
		same(t, "or distributes", g.or(x, g.and(y, z)), g.and(g.or(x, y), g.or(x, z)))
		same(t, "not not", g.not(g.not(x)), x)
		same(t, "minus", minus, g.and(x, g.not(y)))
		same(t, "x or not x", g.or(x, g.not(x)), whole)
		same(t, "x and not x", g.and(x, g.not(x)), nil)
		if g.size(g.and(x, y))+g.size(minus) != g.size(x) {
			t.Error("Size", x, y)
		}
	}
}

func TestP1_16Grow(t *testing.T) {
	c := chance(17)
	for range 300 {
		l := c.arcs(6)
		by := c.pick(0, 1, c.n(20), c.n(600), c.n(api.Ring+1))
		more := c.pick(0, 1, c.n(20), c.n(600), api.Ring)
		if by+more > api.Ring {
			more = api.Ring - by
		}
		one, e := dial.Grow(l, by)
		two, f := dial.Grow(one, more)
		at, g := dial.Grow(l, by+more)
		if e != api.OK || f != api.OK || g != api.OK || !slices.Equal(two, at) {
			t.Error("Grow", l, by, more, two, at, e, f, g)
		}
	}
}

// agrees reports whether a mark agrees with a complete mark.
func agrees(m, struck api.Mark) bool {
	got, e := dial.Sharpen(m, struck)
	return e == api.OK && got == struck
}

// vague returns a mark that agrees with a complete one.
func (c *chance) vague(t *testing.T, struck api.Mark) api.Mark {
	t.Helper()
	m, e := dial.Blur(struck, c.pick(0, 1, c.n(700), c.n(api.Ring+1)), c.pins(c.n(3)))
	if e != api.OK || !agrees(m, struck) {
		t.Error("Blur does not agree:", struck, m, e)
	}
	return m
}

func TestP1_17Strike(t *testing.T) {
	c := chance(18)
	for range 400 {
		l, i, at := append(c.bunch(5), c.keyOf(100)), c.ink(), c.pick(c.n(api.Ring), c.n(3), -c.n(1000))
		k := l[c.n(len(l))]
		b := c.blow(k.Pattern, i)
		struck, e := dial.Strike(k, at, b, i)
		if e != api.OK {
			t.Fatal("Strike", k, at, b, i, e)
		}
		m := c.vague(t, struck)
		if ids, e := dial.Makers(l, m, i); e != api.OK || !slices.Contains(ids, k.ID) {
			t.Error("Makers", l, m, i, ids, e)
		}
		angles, e := dial.Angles(k, m, i)
		if e != api.OK || !slices.ContainsFunc(angles, func(x api.Arc) bool { return dial.Has(x, at) }) {
			t.Error("Angles", k, m, i, at, angles, e)
		}
	}
}

func TestP1_17Twice(t *testing.T) {
	c := chance(19)
	for range 400 {
		l, i := append(c.bunch(5), c.keyOf(100), c.keyOf(101)), c.ink()
		n := c.n(len(l) - 1)
		k, o := l[n], l[n+1+c.n(len(l)-n-1)]
		if k.Track != o.Track {
			continue
		}
		b := c.blow(k.Pattern|o.Pattern, i)
		first, second := k, o
		if c.n(2) == 0 {
			first, second = o, k
		}
		struck, e := dial.Twice(first, second, c.n(api.Ring), c.n(api.Double+1), b, i)
		if e != api.OK {
			t.Fatal("Twice", k, o, b, i, e)
		}
		m := c.vague(t, struck)
		if pairs, e := dial.Pairs(l, m, i); e != api.OK || !slices.Contains(pairs, [2]int{k.ID, o.ID}) {
			t.Error("Pairs", l, m, i, pairs, e)
		}
	}
}

// struckAt reports whether a blow for which Strike returns a mark that m agrees with is found.
func struckAt(k api.Key, at int, m api.Mark, i api.Ink) bool {
	b := api.Blow{Miss: k.Pattern & m.Blank, Dirt: m.Seen &^ k.Pattern}
	for b.Shift = -i.Slip; b.Shift <= i.Slip; b.Shift++ {
		if struck, e := dial.Strike(k, at, b, i); e == api.OK && agrees(m, struck) {
			return true
		}
	}
	return false
}

func TestP1_18(t *testing.T) {
	c := chance(20)
	makers := 0
	for range 150 {
		l, m, i := c.bunch(5), c.mark(), c.ink()
		ids, e := dial.Makers(l, m, i)
		if e != api.OK {
			t.Fatal("Makers", e)
		}
		for _, k := range l {
			angles, e := dial.Angles(k, m, i)
			if e != api.OK || (len(angles) > 0) != slices.Contains(ids, k.ID) {
				t.Error("Angles", k, m, i, angles, e)
			}
			for _, x := range angles {
				makers++
				for _, n := range []int{0, x.Len, c.n(x.Len + 1)} {
					if !struckAt(k, x.From+n, m, i) {
						t.Error("no blow:", k, x.From+n, m, i)
					}
				}
			}
		}
	}
	if makers < 50 {
		t.Error("not an even test:", makers)
	}
}

func TestP1_19(t *testing.T) {
	c := chance(21)
	for n := range 25 {
		i := api.Ink{Faint: n / 5, Stray: n % 5}
		var l []api.Key
		for len(l) < 12 {
			track := c.n(2)
			p, e := dial.Propose(l, track, 1+c.n(api.AllPins), i)
			if e != api.OK {
				p, e = dial.Propose(l, track, 1, i)
			}
			if e != api.OK {
				break
			}
			l = append(l, key(len(l)+1, track, p))
		}
		if e, at := dial.CheckKeys(l, i); e != api.OK || at != -1 || len(l) < 2 {
			t.Fatal("no cabinet:", l, i, e, at)
		}
		for track := range 2 {
			for seen := range api.AllPins + 1 {
				if ids, e := dial.Makers(l, full(5, 5, track, seen), i); e != api.OK || len(ids) > 1 {
					t.Fatal("two makers:", l, i, seen, ids, e)
				}
			}
		}
	}
}

// among reports whether each element of a list is one of another list.
func among[T comparable](a, b []T) bool {
	return !slices.ContainsFunc(a, func(x T) bool { return !slices.Contains(b, x) })
}

// checkKnowsMore checks that a mark of which more is known can be of fewer keys, and at fewer angles.
func checkKnowsMore(t *testing.T, l []api.Key, more, less api.Mark, i api.Ink) {
	t.Helper()
	ids, e := dial.Makers(l, more, i)
	wideIDs, f := dial.Makers(l, less, i)
	if e != api.OK || f != api.OK || !among(ids, wideIDs) {
		t.Error("Makers", more, less, ids, wideIDs, e, f)
	}
	pairs, e := dial.Pairs(l, more, i)
	widePairs, f := dial.Pairs(l, less, i)
	if e != api.OK || f != api.OK || !among(pairs, widePairs) {
		t.Error("Pairs", more, less, pairs, widePairs, e, f)
	}
	for _, k := range l {
		at, e := dial.Angles(k, more, i)
		wide, f := dial.Angles(k, less, i)
		if is, g := dial.Covers(wide, at); e != api.OK || f != api.OK || g != api.OK || !is {
			t.Error("Angles", more, less, at, wide, e, f, g)
		}
	}
}

func TestP1_20(t *testing.T) {
	c := chance(22)
	sharp := 0
	for range 600 {
		l, i, a, b := c.bunch(5), c.ink(), c.mark(), c.mark()
		b.Track = a.Track
		blurred, e := dial.Blur(a, c.pick(0, c.n(700), c.n(api.Ring+1)), c.pins(c.n(3)))
		if e != api.OK {
			t.Fatal("Blur", a, e)
		}
		checkKnowsMore(t, l, a, blurred, i)
		if c.n(2) == 0 {
			b.Seen, b.Blank = b.Seen&^a.Blank, b.Blank&^a.Seen
		}
		m, e := dial.Sharpen(a, b)
		if e != api.OK {
			continue
		}
		sharp++
		checkKnowsMore(t, l, m, a, i)
		checkKnowsMore(t, l, m, b, i)
	}
	if sharp < 50 {
		t.Error("not an even test:", sharp)
	}
}
