package order_test

import (
	"slices"
	"strings"
	"testing"

	"patrol/api"
	"patrol/order"
)

// ordersWithLists calls a function with random orders and their languages.
func ordersWithLists(t *testing.T, seed chance, many int, call func(o api.Order, l [][]string)) {
	t.Helper()
	c, found := seed, 0
	for found < many {
		o := c.order(c.from(1, 5), c.from(1, 4))
		if l := language(o, 300); l != nil {
			found++
			call(o, lists(l))
		}
	}
}

func TestP4_3Names(t *testing.T) {
	l, e := order.Names(visit("x"))
	same(t, "Names", l, words("x"), e)
	l, e = order.Names(then(each("b", "a0", "a", "b0"), anyGap(), either(visit("b"), visit("9"))))
	same(t, "Names", l, words("9 a a0 b b0"), e)
	l, e = order.Names(thens(slices.Repeat(words("h g f e d c b a"), 2)...))
	same(t, "Names", l, letters(8), e)
}

func TestP4_3Lengths(t *testing.T) {
	ordersWithLists(t, 43, 300, func(o api.Order, all [][]string) {
		lo, hi, e := order.Lengths(o)
		if lo != len(all[0]) || hi != len(all[len(all)-1]) || e != api.OK {
			t.Errorf("Lengths: %s: %d %d %d", textOf(o), lo, hi, e)
		}
		names := map[string]bool{}
		for _, l := range all {
			for _, name := range l {
				names[name] = true
			}
		}
		l, e := order.Names(o)
		if len(l) != len(names) || !slices.IsSorted(l) || e != api.OK {
			t.Errorf("Names: %s: %v %d", textOf(o), l, e)
		}
		for _, name := range l {
			if !names[name] {
				t.Errorf("Names: %s: %v", textOf(o), l)
			}
		}
	})
	for _, x := range []struct {
		source string
		lo, hi int
	}{{"a", 1, 1}, {"each(a, b, c)", 3, 3}, {"a then b or c", 1, 2}, {"c or a then b", 1, 2}, {"times 2 to 5 (a or b then c) within 7", 2, 10}, {"times 5 to 5 times 6 to 6 a", 30, 30}} {
		if lo, hi, e := order.Lengths(parsed(t, x.source)); lo != x.lo || hi != x.hi || e != api.OK {
			t.Error("Lengths", x.source, lo, hi, e)
		}
	}
}

func TestP4_3Mirror(t *testing.T) {
	for source, want := range map[string]string{
		"a": "a", "each(b, a)": "each(b, a)", "a then b": "b then a", "a or b": "a or b", "a then after 3 to 9 b then after 1 to 2 c": "c then after 1 to 2 (b then after 3 to 9 a)",
		"times 2 to 3 after 4 to 5 (a then b within 6) within 7": "times 2 to 3 after 4 to 5 (b within 6 then a) within 7", "(a then b or c then d) then each(d, c)": "each(d, c) then (b then a or d then c)",
	} {
		o := parsed(t, source)
		m, e := order.Mirror(o)
		printed(t, m, want)
		again, f := order.Mirror(m)
		if e != api.OK || f != api.OK || !isEqual(again, o) {
			t.Error("Mirror", source, e, f, again)
		}
	}
}

func TestP4_9(t *testing.T) {
	ordersWithLists(t, 49, 300, func(o api.Order, all [][]string) {
		l, e := order.Least(o)
		same(t, "Least: "+textOf(o), l, all[0], e)
		var want []string
		for _, name := range letters(5) {
			if !slices.ContainsFunc(all, func(l []string) bool { return !slices.Contains(l, name) }) {
				want = append(want, name)
			}
		}
		l, e = order.Needed(o)
		same(t, "Needed: "+textOf(o), l, want, e)
	})
	for _, x := range []struct{ source, least, needed string }{
		{"a", "a", "a"}, {"each(c, a, b)", "a b c", "a b c"}, {"a then b or c", "c", ""}, {"b or a", "a", ""}, {"b then c or a then d", "a d", ""}, {"a then b or b then a or each(b, c)", "a b", "b"}, {"times 2 to 3 (b then a or c)", "c c", ""}, {"times 2 to 3 (b or a)", "a a", ""},
		{"(b or a then a) then (a or c)", "b a", ""}, {"a10 or a9", "a10", ""}, {"a or a0", "a", ""}, {"times 3 to 4 each(b, a) then (a or b or c)", "a b a b a b a", "a b"}, {"(a then b within 5) within 7", "a b", "a b"},
	} {
		o := parsed(t, x.source)
		l, e := order.Least(o)
		same(t, "Least: "+x.source, l, words(x.least), e)
		l, e = order.Needed(o)
		same(t, "Needed: "+x.source, l, words(x.needed), e)
	}
	l, e := order.Least(parsed(t, "times 5 to 5 times 6 to 6 a"))
	same(t, "Least of the longest", l, strings.Split(strings.Repeat("a", 30), ""), e)
}
