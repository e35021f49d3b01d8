package order_test

import (
	"cmp"
	"maps"
	"slices"
	"strings"
	"testing"

	"patrol/api"
	"patrol/order"
)

const (
	maxInt = 1<<63 - 1
	minInt = -1 << 63
)

// exampleSource is the order o of the chapter's examples.
const exampleSource = "gate then after 60 to 600 (mill or loft within 9) then times 1 to 2 dock"

// chance is a generator of numbers that are the same in each run.
type chance uint64

// n returns a number from 0 to limit - 1.
func (c *chance) n(limit int) int {
	*c = *c*6364136223846793005 + 1442695040888963407
	return int(uint64(*c)>>33) % limit
}

// from returns a number from lo to hi.
func (c *chance) from(lo, hi int) int { return lo + c.n(hi-lo+1) }

func (c *chance) pick(l ...int) int { return l[c.n(len(l))] }

func span(lo, hi int) api.Span { return api.Span{Lo: lo, Hi: hi} }

func anyGap() api.Span { return span(0, api.MaxGap) }

// words returns the words of a text.
func words(text string) []string { return strings.Fields(text) }

// visits returns the visits of names and times, in turns.
func visits(l ...any) []api.Visit {
	var v []api.Visit
	for k := 0; k < len(l); k += 2 {
		v = append(v, api.Visit{Name: l[k].(string), Time: l[k+1].(int)})
	}
	return v
}

// timed returns visits of some names at some times.
func timed(names []string, times []int) []api.Visit {
	var v []api.Visit
	for k, name := range names {
		v = append(v, api.Visit{Name: name, Time: times[k]})
	}
	return v
}

// links returns the links of some numbers, three for each.
func links(l ...int) api.Demand {
	var d api.Demand
	for k := 0; k < len(l); k += 3 {
		d.Links = append(d.Links, api.Link{From: l[k], To: l[k+1], Most: l[k+2]})
	}
	return d
}

func demands(l ...api.Demand) []api.Demand { return l }

// The nodes of each kind.
func visit(name string) api.Order     { return api.Order{Kind: api.OrVisit, Names: []string{name}} }
func each(names ...string) api.Order  { return api.Order{Kind: api.OrEach, Names: names} }
func either(a, b api.Order) api.Order { return api.Order{Kind: api.OrEither, Kids: []api.Order{a, b}} }
func within(a api.Order, n int) api.Order {
	return api.Order{Kind: api.OrWithin, Most: n, Kids: []api.Order{a}}
}
func then(a api.Order, gap api.Span, b api.Order) api.Order {
	return api.Order{Kind: api.OrThen, Gap: gap, Kids: []api.Order{a, b}}
}
func times(lo, hi int, gap api.Span, a api.Order) api.Order {
	return api.Order{Kind: api.OrTimes, Lo: lo, Hi: hi, Gap: gap, Kids: []api.Order{a}}
}

// follows returns an order of some names, one after the other.
func follows(names ...string) api.Order {
	o := visit(names[0])
	for _, name := range names[1:] {
		o = then(o, anyGap(), visit(name))
	}
	return o
}

// isEqual reports whether two orders are equal.
func isEqual(a, b api.Order) bool {
	return a.Kind == b.Kind && a.Gap == b.Gap && a.Most == b.Most && a.Lo == b.Lo && a.Hi == b.Hi && slices.Equal(a.Names, b.Names) && slices.EqualFunc(a.Kids, b.Kids, isEqual)
}

// copyOf returns an order with memory of its own.
func copyOf(o api.Order) api.Order {
	o.Names, o.Kids = slices.Clone(o.Names), slices.Clone(o.Kids)
	for k, kid := range o.Kids {
		o.Kids[k] = copyOf(kid)
	}
	return o
}

// same checks a list, and that there is no error.
func same[T comparable](t *testing.T, what string, got, want []T, e api.Errno) {
	t.Helper()
	if !slices.Equal(got, want) || e != api.OK {
		t.Errorf("%s: %v %d, not %v", what, got, e, want)
	}
}

func isSameDemands(a, b []api.Demand) bool {
	return slices.EqualFunc(a, b, func(x, y api.Demand) bool { return slices.Equal(x.Links, y.Links) })
}

func sameDemands(t *testing.T, what string, got, want []api.Demand) {
	t.Helper()
	if !isSameDemands(got, want) {
		t.Errorf("Demands: %s: %v, not %v", what, got, want)
	}
}

func isSameAutomaton(a, b api.Automaton) bool {
	return slices.Equal(a.Names, b.Names) && slices.Equal(a.Final, b.Final) && slices.EqualFunc(a.Next, b.Next, slices.Equal)
}

// parsed returns the order of a source that has one.
func parsed(t *testing.T, source string) api.Order {
	t.Helper()
	o, e, at := order.Parse(source)
	if e != api.OK || at != 0 {
		t.Errorf("Parse: %q: %d %d", source, e, at)
	}
	return o
}

// printed checks the text of an order.
func printed(t *testing.T, o api.Order, want string) {
	t.Helper()
	if text, e := order.Print(o); text != want || e != api.OK {
		t.Errorf("Print: %q %d, not %q", text, e, want)
	}
}

// failed checks that a source has an error.
func failed(t *testing.T, source string, want api.Errno, index int) {
	t.Helper()
	if o, e, at := order.Parse(source); e != want || at != index || !isEqual(o, api.Order{}) {
		t.Errorf("Parse: %q: %v %d %d, not %d %d", source, o, e, at, want, index)
	}
}

func malformed(t *testing.T, source string, index int) {
	t.Helper()
	failed(t, source, api.ErrForm, index)
}

// demanded returns the demands of an order that has some, or none, for a list.
func demanded(t *testing.T, o api.Order, names ...string) []api.Demand {
	t.Helper()
	l, e := order.Demands(o, names)
	if e != api.OK {
		t.Error("Demands", o, names, e)
	}
	return l
}

// textOf returns the text of an order for messages.
func textOf(o api.Order) string {
	s, _ := order.Print(o)
	return s
}

// node returns a random node whose parts have at most depth nodes on a path.
func (c *chance) node(depth, names int, gap func() api.Span, most func() int) api.Order {
	name := func() string { return string(rune('a' + c.n(names))) }
	kid := func() api.Order { return c.node(depth-1, names, gap, most) }
	if depth <= 1 || c.n(5) == 0 {
		if names >= 2 && c.n(3) == 0 {
			l := map[string]bool{}
			for len(l) < c.from(2, min(names, api.MaxEach)) {
				l[name()] = true
			}
			return each(c.shuffled(slices.Sorted(maps.Keys(l)))...)
		}
		return visit(name())
	}
	switch c.n(7) {
	case 0, 1, 2:
		return then(kid(), gap(), kid())
	case 3, 4:
		return either(kid(), kid())
	case 5:
		return within(kid(), most())
	}
	lo := c.from(1, 3)
	return times(lo, c.from(lo, 3), gap(), kid())
}

// shuffled changes the order of a list.
func (c *chance) shuffled(l []string) []string {
	for k := range l {
		n := c.n(k + 1)
		l[k], l[n] = l[n], l[k]
	}
	return l
}

// order returns a random order without an error, with small gaps.
func (c *chance) order(depth, names int) api.Order {
	gap := func() api.Span {
		switch c.n(5) {
		case 0:
			return anyGap()
		case 1:
			return span(c.n(6), api.MaxGap)
		}
		lo := c.n(6)
		return span(lo, lo+c.n(8))
	}
	for {
		o := c.node(depth, names, gap, func() int { return c.n(20) })
		if order.Check(o) == api.OK {
			return o
		}
	}
}

// matches is the definition of a node that matches the visits of a list. If the times do not count, any times do.
func matches(o api.Order, l []api.Visit, timeless bool) bool {
	if len(l) == 0 {
		return false
	}
	switch o.Kind {
	case api.OrVisit:
		return len(l) == 1 && l[0].Name == o.Names[0]
	case api.OrEach:
		for _, name := range o.Names {
			if !slices.ContainsFunc(l, func(x api.Visit) bool { return x.Name == name }) {
				return false
			}
		}
		return len(l) == len(o.Names)
	case api.OrThen:
		for m := 1; m < len(l); m++ {
			if (timeless || allows(o.Gap, l[m].Time-l[m-1].Time)) && matches(o.Kids[0], l[:m], timeless) && matches(o.Kids[1], l[m:], timeless) {
				return true
			}
		}
		return false
	case api.OrEither:
		return matches(o.Kids[0], l, timeless) || matches(o.Kids[1], l, timeless)
	case api.OrWithin:
		return (timeless || l[len(l)-1].Time <= l[0].Time+o.Most) && matches(o.Kids[0], l, timeless)
	}
	for c := o.Lo; c <= o.Hi; c++ {
		if repeats(o, c, l, timeless) {
			return true
		}
	}
	return false
}

// allows is the definition of a gap that allows a number of seconds.
func allows(gap api.Span, d int) bool { return d >= gap.Lo && (d <= gap.Hi || gap.Hi == api.MaxGap) }

// repeats reports whether visits can be cut into so many parts that the kid of OrTimes matches, with its gaps.
func repeats(o api.Order, c int, l []api.Visit, timeless bool) bool {
	if c == 1 {
		return matches(o.Kids[0], l, timeless)
	}
	for m := 1; m < len(l); m++ {
		if (timeless || allows(o.Gap, l[m].Time-l[m-1].Time)) && matches(o.Kids[0], l[:m], timeless) && repeats(o, c-1, l[m:], timeless) {
			return true
		}
	}
	return false
}

// accepts is the definition of an order that accepts a list.
func accepts(o api.Order, names []string) bool {
	return matches(o, timed(names, make([]int, len(names))), true)
}

// language returns all lists that a node accepts, each once; nil if they are more than limit. The key of a list is its names with blanks between them.
func language(o api.Order, limit int) map[string]bool {
	l := map[string]bool{}
	switch o.Kind {
	case api.OrVisit:
		l[o.Names[0]] = true
	case api.OrEach:
		for k, name := range o.Names {
			rest := slices.Delete(slices.Clone(o.Names), k, k+1)
			if len(rest) == 0 {
				l[name] = true
				continue
			}
			for x := range language(each(rest...), limit) {
				l[name+" "+x] = true
			}
		}
	case api.OrThen:
		return chained(language(o.Kids[0], limit), language(o.Kids[1], limit), limit)
	case api.OrEither:
		a, b := language(o.Kids[0], limit), language(o.Kids[1], limit)
		if a == nil || b == nil {
			return nil
		}
		maps.Copy(l, a)
		maps.Copy(l, b)
	case api.OrWithin:
		return language(o.Kids[0], limit)
	case api.OrTimes:
		kid := language(o.Kids[0], limit)
		part := kid
		for c := 1; c <= o.Hi; c++ {
			if c > 1 {
				part = chained(part, kid, limit)
			}
			if part == nil {
				return nil
			}
			if c >= o.Lo {
				maps.Copy(l, part)
			}
		}
	}
	if len(l) > limit {
		return nil
	}
	return l
}

// chained returns the lists that begin with one of some lists, and end with one of some others.
func chained(a, b map[string]bool, limit int) map[string]bool {
	if a == nil || b == nil || len(a)*len(b) > 20*limit {
		return nil
	}
	l := map[string]bool{}
	for x := range a {
		for y := range b {
			l[x+" "+y] = true
		}
	}
	if len(l) > limit {
		return nil
	}
	return l
}

// lists returns the lists of a language, the shortest ones first.
func lists(l map[string]bool) [][]string {
	var all [][]string
	for x := range l {
		all = append(all, words(x))
	}
	slices.SortFunc(all, func(a, b []string) int { return cmp.Or(cmp.Compare(len(a), len(b)), slices.Compare(a, b)) })
	return all
}
