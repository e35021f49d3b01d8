package custody_test

import (
	"slices"
	"testing"

	"patrol/api"
	"patrol/custody"
)

// isIn checks that an element stands in a list.
func isIn(t *testing.T, what string, l []int, n int, e api.Errno) {
	t.Helper()
	if !slices.Contains(l, n) || e != api.OK {
		t.Errorf("%s: %d is not in %v %d", what, n, l, e)
	}
}

// follows checks P6.13 for a history of a key and a time.
func follows(t *testing.T, c api.Custody, key int, l []api.Move, at int) {
	t.Helper()
	place, copies, e := custody.Held(c, key, l, at)
	holders, f := custody.Holders(c, key, at)
	isIn(t, "Holders", holders, place, max(e, f))
	copiers, f := custody.Copiers(c, key, at)
	for _, id := range copies {
		isIn(t, "Copiers", copiers, id, f)
	}
	for _, id := range append(copies, place) {
		if isOnDuty(c, id, at) {
			for _, s := range spans(span(at, at), span(max(at-2, 0), at), span(0, api.MaxTime)) {
				hands, f := custody.Hands(c, key, s)
				isIn(t, "Hands", hands, id, f)
			}
		}
	}
	for _, m := range l {
		if m.Entry == 0 {
			continue
		}
		if s, e := custody.When(c, m.Entry); m.Time < s.Lo || m.Time > s.Hi || e != api.OK {
			t.Error("When", c, m, s, e)
		}
	}
}

// TestP6_13 checks what follows of the histories of small books, which CheckHistory accepts.
func TestP6_13(t *testing.T) {
	r := chance(13)
	accepted := 0
	for k := range 300 {
		s := small(starts()[k%5], 2)
		c := r.book(s)
		lo, hi := window(s)
		var p [][]api.Move
		for _, key := range c.Keys {
			n := 0
			var some []api.Move
			for l := range histories(c, key, lo, hi) {
				if n++; n > 1000 {
					break
				}
				if n%100 == 1 {
					some = l
					follows(t, c, key, l, r.from(lo, hi))
				}
			}
			p = append(p, some)
			if l, e := custody.History(c, key); e == api.OK {
				accepted++
				if e := custody.CheckHistory(c, key, l); e != api.OK {
					t.Error("CheckHistory of History", c, key, l, e)
				}
				follows(t, c, key, l, r.from(lo, hi))
			}
		}
		var l []api.Use
		for range r.n(3) {
			l = append(l, r.use(c, s.lo, s.hi))
		}
		is, _ := custody.Fits(c, l)
		if e := custody.CheckProof(c, l, p); e == api.OK && !is {
			t.Error("CheckProof accepts what Fits does not", c, l, p)
		}
		if p, e := custody.Prove(c, l); is && (e != api.OK || custody.CheckProof(c, l, p) != api.OK) {
			t.Error("CheckProof of Prove", c, l, p, e)
		}
	}
	if accepted < 100 {
		t.Error("not an even test:", accepted)
	}
}

// TestP6_14 checks that what is told of holders and hands is attained.
func TestP6_14(t *testing.T) {
	r := chance(14)
	attained := 0
	for k := range 300 {
		s := small(starts()[k%5], 3)
		s.keys, s.entries, s.hi = 1, 4, min(s.lo+8, api.MaxTime)
		c := r.book(s)
		key := c.Keys[0]
		at := r.from(s.lo, s.hi)
		l, _ := custody.Holders(c, key, at)
		for _, who := range l {
			if isOnDuty(c, who, at) {
				attained++
				fits(t, c, uses(use(key, who, at)), true)
			}
		}
		whole := r.span(s.lo, s.hi)
		cut := r.from(whole.Lo, whole.Hi)
		hands, e := custody.Hands(c, key, whole)
		if e != api.OK {
			continue
		}
		first, e := custody.Hands(c, key, span(whole.Lo, cut))
		last, f := first, e
		if cut < whole.Hi {
			last, f = custody.Hands(c, key, span(cut+1, whole.Hi))
		}
		both := append(first, last...)
		slices.Sort(both)
		same(t, "Hands of two parts", hands, slices.Compact(both), max(e, f))
	}
	if attained < 100 {
		t.Error("not an even test:", attained)
	}
}

// answers are what a key can have been at a time and in a span.
func answers(t *testing.T, c api.Custody, key, at int, s api.Span) [][]int {
	t.Helper()
	holders, e := custody.Holders(c, key, at)
	copiers, f := custody.Copiers(c, key, at)
	hands, g := custody.Hands(c, key, s)
	if e != f || f != g {
		t.Error("errors:", e, f, g)
	}
	if e != api.OK {
		return nil
	}
	return [][]int{holders, copiers, hands}
}

// isPart reports whether all elements of lists stand in other ones.
func isPart(a, b [][]int) bool {
	for k := range a {
		for _, n := range a[k] {
			if !slices.Contains(b[k], n) {
				return false
			}
		}
	}
	return true
}

// TestP6_15 adds entries, makes spans narrower, and changes the number of gaps.
func TestP6_15(t *testing.T) {
	r := chance(15)
	lost := 0
	for k := range 600 {
		s := small(starts()[k%5], 3)
		s.entries, s.hi = 4, min(s.lo+8, api.MaxTime)
		c := r.book(s)
		c.Keys = append(c.Keys, 99)
		key, at, in := c.Keys[0], r.from(s.lo, s.hi), r.span(s.lo, s.hi)
		before := answers(t, c, key, at, in)
		more, e := custody.With(c, r.entry(c, 1000, 99, s.lo, s.hi))
		if !slices.EqualFunc(answers(t, more, key, at, in), before, slices.Equal) || e != api.OK {
			t.Error("an entry of another key", c, e)
		}
		for id := range 12 {
			x, e := custody.When(c, id)
			y, f := custody.When(more, id)
			if x != y || e != f {
				t.Error("an entry of another key", c, id, x, y)
			}
		}
		narrow := copyOf(c)
		for n, x := range narrow.Entries {
			if x.Key == key {
				narrow.Entries[n].At = r.span(x.At.Lo, x.At.Hi)
			}
		}
		if after := answers(t, narrow, key, at, in); after != nil {
			lost++
			if before == nil || !isPart(after, before) {
				t.Error("narrower", c, narrow, before, after)
			}
		}
		for _, other := range c.Keys[1:] {
			if !slices.EqualFunc(answers(t, narrow, other, at, in), answers(t, c, other, at, in), slices.Equal) {
				t.Error("narrower, of another key", c, narrow)
			}
		}
		for ; c.Gaps < api.MaxGaps; c.Gaps++ {
			greater := c
			greater.Gaps++
			few, many := answers(t, c, key, at, in), answers(t, greater, key, at, in)
			if few != nil && (many == nil || !isPart(few, many)) {
				t.Error("fewer gaps", c, few, many)
			}
		}
	}
	if lost < 100 {
		t.Error("not an even test:", lost)
	}
}

// TestP6_16 checks parts of uses, and uses and entries in another order.
func TestP6_16(t *testing.T) {
	r := chance(16)
	fit := map[bool]int{}
	for k := range 500 {
		lo := starts()[k%3]
		c := r.book(sizes{people: 3, keys: 2, entries: 3, gaps: 3, lo: lo, hi: lo + 9})
		if k%2 == 0 {
			c, _ = r.trueBook(3, 2, 5, lo, lo+9)
		}
		var l []api.Use
		for range r.n(7) {
			l = append(l, r.use(c, lo, lo+9))
		}
		is, _ := custody.Fits(c, l)
		fit[is]++
		part := slices.DeleteFunc(slices.Clone(l), func(api.Use) bool { return r.n(2) == 0 })
		if of, e := custody.Fits(c, part); is && !of || e != api.OK {
			t.Error("a part of uses that fit", c, l, part)
		}
		if !is {
			core, _ := custody.Core(c, l)
			isLeast(t, c, l, core)
		}
		other := copyOf(c)
		other.Entries = shuffle(&r, c.Entries)
		mixed := shuffle(&r, l)
		for _, name := range []string{"Fits", "Prove"} {
			if x, y := calls(c, args{uses: l})[name], calls(other, args{uses: mixed})[name]; x != y {
				t.Error(name, c, l, other, mixed, x, y)
			}
		}
		x, e := custody.Men(c, l)
		y, f := custody.Men(other, mixed)
		same(t, "Men", x, y, max(e, f))
		if p, e := custody.Prove(c, l); is && (e != api.OK || custody.CheckProof(other, mixed, p) != api.OK) {
			t.Error("CheckProof", c, l, other, mixed, p, e)
		}
		isSameOf(t, c, other, c.Keys[0], r.from(lo, lo+9), r.span(lo, lo+9))
	}
	if fit[true] < 50 || fit[false] < 50 {
		t.Error("not an even test:", fit)
	}
}

// isLeast checks that uses with some indices do not fit together, but do without any one of them.
func isLeast(t *testing.T, c api.Custody, l []api.Use, core []int) {
	t.Helper()
	some := func(without int) []api.Use {
		var rest []api.Use
		for _, k := range core {
			if k != without {
				rest = append(rest, l[k])
			}
		}
		return rest
	}
	if is, e := custody.Fits(c, some(-1)); is || e != api.OK {
		t.Error("the uses of Core fit", c, l, core)
	}
	for _, k := range core {
		if is, e := custody.Fits(c, some(k)); !is || e != api.OK {
			t.Error("Core without one of its uses", c, l, core, k)
		}
	}
}

// isSameOf checks that two books with the same entries tell the same.
func isSameOf(t *testing.T, c, other api.Custody, key, at int, s api.Span) {
	t.Helper()
	if !slices.EqualFunc(answers(t, c, key, at, s), answers(t, other, key, at, s), slices.Equal) {
		t.Error("another order", c, other)
	}
	for _, x := range c.Entries {
		s, e := custody.When(c, x.ID)
		o, f := custody.When(other, x.ID)
		if s != o || e != f {
			t.Error("When", c, other, x, s, o)
		}
	}
	n, e := custody.Needed(c, key)
	o, f := custody.Needed(other, key)
	if n != o || e != f {
		t.Error("Needed", c, other, n, o)
	}
	a, e := custody.Suspects(c, key)
	b, f := custody.Suspects(other, key)
	same(t, "Suspects", a, b, max(e, f))
}

// TestT6 lets keys truly be moved, and writes entries of it: whoever truly had a key in hand is told.
func TestT6(t *testing.T) {
	r := chance(60)
	entries := 0
	for range 300 {
		lo := r.pick(0, 100, api.MaxTime-30)
		c, all := r.trueBook(r.from(1, 8), r.from(1, 5), 7, lo, lo+30)
		entries += len(c.Entries)
		if e := custody.Check(c); e != api.OK {
			t.Fatal("Check", c, e)
		}
		var l []api.Use
		for _, key := range c.Keys {
			at := r.from(lo, lo+30)
			now := behindTruth(all[key], at)
			holders, e := custody.Holders(c, key, at)
			isIn(t, "Holders", holders, now.place, e)
			copiers, e := custody.Copiers(c, key, at)
			for _, id := range now.copies {
				isIn(t, "Copiers", copiers, id, e)
			}
			if n, e := custody.Needed(c, key); n > api.MaxGaps || e != api.OK {
				t.Error("Needed", c, n, e)
			}
			for range 4 {
				at := r.from(lo, lo+30)
				now := behindTruth(all[key], at)
				for _, id := range append(slices.Clone(now.copies), now.place) {
					if isOnDuty(c, id, at) && len(l) < api.MaxUses {
						l = append(l, use(key, id, at))
					}
				}
			}
		}
		for _, u := range l {
			hands, e := custody.Hands(c, u.Key, span(max(u.Time-r.n(3), 0), u.Time))
			isIn(t, "Hands", hands, u.Who, e)
		}
		fits(t, c, l, true)
		for _, x := range c.Entries {
			if s, e := custody.When(c, x.ID); s.Lo < x.At.Lo || s.Hi > x.At.Hi || e != api.OK {
				t.Error("When", c, x, s, e)
			}
		}
	}
	if entries < 1000 {
		t.Error("not an even test:", entries)
	}
}

// TestLargest asks everything of a book that is as large as it may be, with as many histories as there may be.
func TestLargest(t *testing.T) {
	c := api.Custody{Gaps: api.MaxGaps}
	for k := range api.MaxPeople {
		c.People = append(c.People, person(k+1, span(0, api.MaxTime)))
	}
	for key := 1; key <= api.MaxHeld; key++ {
		c.Keys = append(c.Keys, key)
	}
	for k := range api.MaxEntries {
		key := k%5 + 1
		x := copying(k+1, key, k/5%3+1, 0, api.MaxTime)
		if k/5 > 2 {
			x = pass(k+1, key, k/5%3+1, (k/5+1)%3+1, 0, api.MaxTime)
		}
		if k/5 < api.MaxOfKey {
			c.Entries = append(c.Entries, x)
		}
	}
	x := args{key: 1, t: 5000, id: 1, s: span(0, 9000)}
	for k := range api.MaxUses {
		x.uses = append(x.uses, use(1, k%3+1, 100*k))
	}
	for name, o := range calls(c, x) {
		if o.e != api.OK && !slices.Contains([]string{"CheckHistory", "Held", "CheckProof", "With", "Core", "Prove"}, name) {
			t.Error(name, o)
		}
	}
	holders, e := custody.Holders(c, 1, 5000)
	same(t, "Holders", holders, []int{0, 1, 2, 3, 4, 5, 6, 7, 8}, e)
}
