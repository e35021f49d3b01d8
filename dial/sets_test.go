package dial_test

import (
	"slices"
	"testing"

	"patrol/api"
	"patrol/dial"
)

type operation func(a, b []api.Arc) ([]api.Arc, api.Errno)

// operations are those of two lists, with what decides whether an angle is in the result.
func operations() []struct {
	name string
	f    operation
	keep func(a, b bool) bool
} {
	return []struct {
		name string
		f    operation
		keep func(a, b bool) bool
	}{
		{"Union", dial.Union, func(a, b bool) bool { return a || b }},
		{"Meet", dial.Meet, func(a, b bool) bool { return a && b }},
		{"Minus", dial.Minus, func(a, b bool) bool { return a && !b }},
	}
}

func TestP1_3(t *testing.T) {
	long := make([]api.Arc, api.MaxArcs+1)
	longBad := append(make([]api.Arc, api.MaxArcs), api.Arc{From: -1})
	lastBad := append(make([]api.Arc, api.MaxArcs-1), api.Arc{Len: -1})
	full := long[:api.MaxArcs]
	one := map[string]func(l []api.Arc) (bool, api.Errno){
		"Normal": func(l []api.Arc) (bool, api.Errno) { r, e := dial.Normal(l); return len(r) == 0, e },
		"Grow":   func(l []api.Arc) (bool, api.Errno) { r, e := dial.Grow(l, 1); return len(r) == 0, e },
		"Size":   func(l []api.Arc) (bool, api.Errno) { n, e := dial.Size(l); return n == 0, e },
	}
	two := map[string]func(a, b []api.Arc) (bool, api.Errno){
		"Covers": func(a, b []api.Arc) (bool, api.Errno) { is, e := dial.Covers(a, b); return !is, e },
	}
	for _, o := range operations() {
		two[o.name] = func(a, b []api.Arc) (bool, api.Errno) { r, e := o.f(a, b); return len(r) == 0, e }
	}
	for name, f := range two {
		for i, c := range []struct {
			a, b []api.Arc
			e    api.Errno
		}{
			{long, nil, api.ErrLimit}, {nil, long, api.ErrLimit}, {longBad, nil, api.ErrLimit}, {nil, longBad, api.ErrLimit},
			{lastBad, nil, api.ErrArg}, {nil, lastBad, api.ErrArg}, {lastBad, long, api.ErrArg}, {long, lastBad, api.ErrLimit},
		} {
			if zero, e := f(c.a, c.b); e != c.e || !zero {
				t.Error(name, i, e, zero)
			}
		}
		if _, e := f(full, full); e != api.OK {
			t.Error(name, "of as many arcs as there may be:", e)
		}
		one[name+" of one list and none"] = func(l []api.Arc) (bool, api.Errno) { return f(l, nil) }
		one[name+" of no list and one"] = func(l []api.Arc) (bool, api.Errno) { return f(nil, l) }
	}
	for name, f := range one {
		for _, x := range badArcs() {
			if zero, e := f([]api.Arc{{From: 3, Len: 3}, x}); e != api.ErrArg || !zero {
				t.Error(name, x, e, zero)
			}
		}
		if zero, e := f(longBad); e != api.ErrLimit || !zero {
			t.Error(name, e, zero)
		}
		if _, e := f(full); e != api.OK {
			t.Error(name, e)
		}
	}
	for _, by := range []int{-1, api.Ring + 1, minInt, maxInt} {
		for i, c := range []struct {
			l []api.Arc
			e api.Errno
		}{{nil, api.ErrArg}, {full, api.ErrArg}, {lastBad, api.ErrArg}, {long, api.ErrLimit}} {
			if r, e := dial.Grow(c.l, by); e != c.e || len(r) != 0 {
				t.Error("Grow by", by, i, r, e)
			}
		}
	}
}

// checkOperations compares the operations with what they do angle by angle.
func checkOperations(t *testing.T, a, b []api.Arc) {
	t.Helper()
	in, other := setOf(a), setOf(b)
	for _, o := range operations() {
		var s set
		for x := range s {
			s[x] = o.keep(in[x], other[x])
		}
		got, e := o.f(a, b)
		if want := s.normal(); e != api.OK || !slices.Equal(got, want) {
			t.Error(o.name, a, b, got, e, "not", want)
		}
	}
	if got, e := dial.Normal(a); e != api.OK || !slices.Equal(got, in.normal()) {
		t.Error("Normal", a, got, e)
	}
	if n, e := dial.Size(a); e != api.OK || n != in.size() {
		t.Error("Size", a, n, e)
	}
	covers := true
	for x := range in {
		covers = covers && (in[x] || !other[x])
	}
	if is, e := dial.Covers(a, b); e != api.OK || is != covers {
		t.Error("Covers", a, b, is, e)
	}
}

func TestP1_4Random(t *testing.T) {
	c := chance(4)
	for range 500 {
		a, b := c.arcs(8), c.arcs(8)
		checkOperations(t, a, b)
		if in, e := dial.Union(a, b); e == api.OK {
			checkOperations(t, in, b)
		}
	}
}

func TestP1_4Edges(t *testing.T) {
	whole := arcs(0, api.Ring-1)
	for _, l := range [][]api.Arc{
		nil, {}, whole, arcs(0, 0), arcs(api.Ring-1, 0), arcs(api.Ring-1, 1), arcs(api.Ring-1, 0, 0, 0), arcs(0, 0, api.Ring-1, 0), arcs(0, 0, 1, 0, 2, 0), arcs(2, 0, 1, 0, 0, 0), arcs(2, 0, 0, 0),
		arcs(0, api.Ring-2), arcs(1, api.Ring-2), arcs(api.Ring-1, api.Ring-2), arcs(0, api.Ring-2, api.Ring-1, 0), arcs(0, 21599, 21600, 21599), arcs(10800, 21599, 32400, 21599), arcs(5, 2, 5, 2), arcs(5, 9, 7, 1), arcs(7, 1, 5, 9),
		arcs(43190, 20, 5, 30), arcs(43190, 20, 43195, 2, 3, 1), arcs(43190, 20, 12, 1, 11, 0), arcs(0, 3, 43198, 1), arcs(43100, 50, 43190, 9, 0, 9),
	} {
		for _, o := range [][]api.Arc{nil, whole, arcs(0, 0), arcs(api.Ring-1, 1), arcs(4, 0, 43199, 0), arcs(21600, 21599), arcs(1, api.Ring-2)} {
			checkOperations(t, l, o)
			checkOperations(t, o, l)
		}
	}
}

// comb returns n arcs of some units, each a step behind the one before it.
func comb(n, from, step, long int) []api.Arc {
	var l []api.Arc
	for k := range n {
		l = append(l, api.Arc{From: (from + k*step) % api.Ring, Len: long})
	}
	return l
}

func TestP1_4LongLists(t *testing.T) {
	teeth, gaps := comb(api.MaxArcs, 0, 216, 100), comb(api.MaxArcs, 40, 216, 10)
	checkOperations(t, teeth, gaps)
	if got, e := dial.Minus(teeth, gaps); e != api.OK || len(got) != 2*api.MaxArcs {
		t.Error("a result can have more arcs than a list:", len(got), e)
	}
	checkOperations(t, comb(api.MaxArcs, 43000, 2, 0), comb(api.MaxArcs, 43001, 2, 0))
	checkOperations(t, comb(api.MaxArcs, 0, 216, 215), nil)
	checkOperations(t, comb(api.MaxArcs, 100, 216, 215), gaps)
	checkOperations(t, arcs(0, api.Ring-1), gaps)
	slices.Reverse(gaps)
	checkOperations(t, gaps, teeth)
}

func TestP1_5Grow(t *testing.T) {
	c := chance(5)
	bys := []int{0, 1, 2, 3, 4, 107, 108, 600, 21598, 21599, 21600, 21601, api.Ring - 1, api.Ring}
	lists := [][]api.Arc{nil, arcs(0, 0), arcs(0, api.Ring-1), arcs(0, api.Ring-2), arcs(5, api.Ring-3), arcs(1, 1), arcs(api.Ring-1, 0), arcs(10, 0, 14, 0), arcs(0, 0, 21600, 0), arcs(0, 0, 21601, 0), comb(api.MaxArcs, 0, 216, 0)}
	for range 30 {
		lists = append(lists, c.arcs(6))
	}
	for _, l := range lists {
		s := setOf(l)
		for _, by := range append(bys, c.n(api.Ring)) {
			got, e := dial.Grow(l, by)
			if want := s.grown(by).normal(); e != api.OK || !slices.Equal(got, want) {
				t.Error("Grow", l, by, got, e, "not", want)
			}
		}
	}
}

func TestP1_5SizeAndCovers(t *testing.T) {
	for i, c := range []struct {
		l []api.Arc
		n int
	}{{nil, 0}, {arcs(7, 0), 1}, {arcs(0, api.Ring-1), api.Ring}, {arcs(0, 3, 2, 5), 8}, {arcs(43198, 4, 0, 0, 0, api.Ring-2), api.Ring}, {arcs(7, 1, 7, 1), 2}} {
		if n, e := dial.Size(c.l); n != c.n || e != api.OK {
			t.Error("Size", i, n, e)
		}
	}
	for i, c := range []struct {
		a, b []api.Arc
		is   bool
	}{{nil, nil, true}, {nil, arcs(0, 0), false}, {arcs(0, 0), nil, true}, {arcs(0, 9, 10, 9), arcs(5, 10), true}, {arcs(5, 10), arcs(0, 9, 10, 9), false}, {arcs(43190, 20), arcs(43199, 0, 0, 0), true}, {arcs(43190, 20), arcs(10, 1), false}, {arcs(0, api.Ring-1), arcs(43199, api.Ring-2), true}} {
		if is, e := dial.Covers(c.a, c.b); is != c.is || e != api.OK {
			t.Error("Covers", i, is, e)
		}
	}
}
