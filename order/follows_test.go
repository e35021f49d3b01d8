package order_test

import (
	"slices"
	"strings"
	"testing"

	"patrol/api"
	"patrol/order"
)

// split returns the names and the times of visits.
func split(l []api.Visit) (names []string, times []int) {
	for _, x := range l {
		names, times = append(names, x.Name), append(times, x.Time)
	}
	return names, times
}

// TestP4_12 checks that visits fulfil an order exactly if their times keep one of its demands, and if there is an explanation.
func TestP4_12(t *testing.T) {
	c := chance(412)
	yes, no := 0, 0
	for range 6000 {
		o := c.order(c.from(1, 6), c.from(1, 3))
		l := c.visits(o)
		is, e := order.Matches(o, l)
		p, f := order.Explain(o, l)
		if e != api.OK || (f == api.OK) != is || is && order.CheckExplain(o, l, p) != api.OK {
			t.Error("Explain", textOf(o), l, is, e, p, f)
		}
		names, times := split(l)
		demands, e := order.Demands(o, names)
		if e == api.ErrLimit {
			continue
		}
		kept := false
		for _, d := range demands {
			one, f := order.Fulfils(d, times)
			if f != api.OK {
				t.Error("Fulfils", d, times, f)
			}
			kept = kept || one
		}
		if kept != is || e != api.OK {
			t.Error("Demands", textOf(o), l, demands, e, is)
		}
		switch {
		case is:
			yes++
		case len(demands) > 0:
			no++
		}
	}
	if yes < 1000 || no < 1000 {
		t.Error("not an even test:", yes, no)
	}
}

// TestP4_13 compares what Matches, Accepts, Demands and Automaton say of names.
func TestP4_13(t *testing.T) {
	c := chance(413)
	yes, no := 0, 0
	for range 3000 {
		o := c.order(c.from(1, 6), c.from(1, 4))
		l := c.visits(o)
		names, _ := split(l)
		accepted, e := order.Accepts(o, names)
		if is, f := order.Matches(o, l); is && !accepted || e != api.OK || f != api.OK {
			t.Error("Accepts", textOf(o), l, accepted, e, f)
		}
		demands, e := order.Demands(o, names)
		if e == api.OK && (len(demands) > 0) != accepted || e != api.OK && e != api.ErrLimit {
			t.Error("Demands", textOf(o), names, demands, e, accepted)
		}
		if a, e := order.Automaton(o); e == api.OK {
			s, e := order.Follow(a, names)
			if (s >= 0 && a.Final[s]) != accepted || e != api.OK {
				t.Error("Follow", textOf(o), names, s, e, accepted)
			}
		}
		if accepted {
			yes++
		} else {
			no++
		}
	}
	if yes < 1000 || no < 200 {
		t.Error("not an even test:", yes, no)
	}
}

// TestP4_14 looks at lists and orders from behind.
func TestP4_14(t *testing.T) {
	c := chance(414)
	yes, no := 0, 0
	for range 4000 {
		o := c.order(c.from(1, 6), c.from(1, 3))
		l := c.visits(o)
		last := c.from(0, 50)
		if len(l) > 0 {
			last += l[len(l)-1].Time
		}
		m, e := order.Mirror(o)
		again, f := order.Mirror(m)
		if e != api.OK || f != api.OK || !isEqual(again, o) {
			t.Error("Mirror", textOf(o), e, f)
		}
		var back []api.Visit
		for _, x := range slices.Backward(l) {
			back = append(back, api.Visit{Name: x.Name, Time: last - x.Time})
		}
		names, _ := split(l)
		backNames, _ := split(back)
		is, e := order.Accepts(o, names)
		isToo, f := order.Accepts(m, backNames)
		if is != isToo || e != api.OK || f != api.OK {
			t.Error("Accepts", textOf(o), names, is, isToo)
		}
		is, e = order.Matches(o, l)
		isToo, f = order.Matches(m, back)
		if is != isToo || e != api.OK || f != api.OK {
			t.Error("Matches", textOf(o), l, is, isToo)
		}
		if is {
			yes++
		} else {
			no++
		}
	}
	if yes < 1000 || no < 1000 {
		t.Error("not an even test:", yes, no)
	}
}

// TestP4_15 compares orders with each other, and with what has the same language.
func TestP4_15(t *testing.T) {
	c := chance(415)
	yes, no := 0, 0
	for range 1500 {
		a, b := c.order(c.from(1, 4), 2), c.order(c.from(1, 4), 2)
		if c.n(2) == 0 { // the same language, told otherwise
			b = within(either(a, a), 5)
			if order.Check(b) != api.OK {
				continue
			}
		}
		_, is, e := order.Same(a, b)
		_, ab, f := order.Implies(a, b)
		_, ba, g := order.Implies(b, a)
		x, h := order.Automaton(a)
		y, i := order.Automaton(b)
		if e != api.OK {
			continue
		}
		if is != (ab && ba) || is != isSameAutomaton(x, y) || f != api.OK || g != api.OK || h != api.OK || i != api.OK {
			t.Error("Same", textOf(a), textOf(b), is, ab, ba, e, f, g, h, i)
		}
		if is {
			yes++
		} else {
			no++
		}
	}
	if yes < 200 || no < 200 {
		t.Error("not an even test:", yes, no)
	}
	ordersWithLists(t, 4150, 200, func(o api.Order, all [][]string) {
		_, hi, _ := order.Lengths(o)
		if hi > api.MaxCount {
			return
		}
		sum := 0
		for n := range api.MaxCount + 1 {
			many, e := order.Count(o, n)
			if outside := n < len(all[0]) || n > hi; outside && many != 0 || e != api.OK {
				t.Error("Count", textOf(o), n, many, e)
			}
			sum += many
		}
		if sum != len(all) {
			t.Error("Count", textOf(o), sum, len(all))
		}
		for _, l := range all {
			next, e := order.Next(o, l)
			if just := !slices.ContainsFunc(all, func(x []string) bool { return len(x) > len(l) && slices.Equal(x[:len(l)], l) }); just != (len(next) == 0) || e != api.OK {
				t.Error("Next", textOf(o), l, next, e)
			}
		}
	})
}

// wider returns an order of which some gaps allow more, and some Most and Hi are greater.
func (c *chance) wider(o api.Order) api.Order {
	o = copyOf(o)
	for k, kid := range o.Kids {
		o.Kids[k] = c.wider(kid)
	}
	switch {
	case c.n(2) == 0:
	case o.Kind == api.OrWithin:
		o.Most += c.n(20)
	case o.Kind == api.OrThen || o.Kind == api.OrTimes:
		o.Gap.Lo -= c.n(o.Gap.Lo + 1)
		o.Gap.Hi = min(o.Gap.Hi+c.pick(0, 1, 5, api.MaxGap), api.MaxGap)
		if o.Kind == api.OrTimes {
			o.Hi += c.n(api.MaxTimes - o.Hi + 1)
		}
	}
	return o
}

func TestP4_16(t *testing.T) {
	c := chance(416)
	still, more := 0, 0
	for range 6000 {
		o := c.order(c.from(1, 6), c.from(1, 3))
		w := c.wider(o)
		if order.Check(w) != api.OK {
			continue
		}
		l := c.visits(o)
		is, e := order.Matches(o, l)
		isToo, f := order.Matches(w, l)
		if is && !isToo || e != api.OK || f != api.OK {
			t.Error("Matches", textOf(o), textOf(w), l, e, f)
		}
		switch {
		case is:
			still++
		case isToo:
			more++
		}
	}
	if still < 1000 || more < 200 {
		t.Error("not an even test:", still, more)
	}
}

// TestR1 gives the functions orders and lists that are as large as they may be.
func TestR1(t *testing.T) {
	thirty := strings.Split(strings.Repeat("a", 30), "")
	l := make30("a")
	for _, source := range []string{
		"times 1 to 6 a then times 1 to 6 a then times 1 to 6 a then times 1 to 6 a then times 1 to 6 a", "times 1 to 5 times 1 to 6 a", "times 1 to 5 after 1 to 2 times 1 to 2 after 2 to 3 times 1 to 3 after 1 to 3 a", "times 1 to 3 times 1 to 2 (a or a then a or (a then a))",
		"(a or a then a or (a then a)) then (a or a then a or (a then a)) then (a or a then a or (a then a)) then (a or a then a or (a then a))", "times 1 to 2 times 1 to 2 times 1 to 2 times 1 to 3 a",
	} {
		o := parsed(t, source)
		for n := range 31 {
			names := thirty[:n]
			is, e := order.Matches(o, l[:n])
			p, f := order.Explain(o, l[:n])
			accepted, g := order.Accepts(o, names)
			d, h := order.Demands(o, names)
			if e != api.OK || (f == api.OK) != is || f == api.OK && order.CheckExplain(o, l[:n], p) != api.OK || g != api.OK || is && !accepted || h == api.OK && (len(d) > 0) != accepted {
				t.Error(source, n, is, e, f, accepted, g, len(d), h)
			}
		}
		if _, e := order.Automaton(o); e != api.OK {
			t.Error("Automaton", source, e)
		}
	}
}
