package dial_test

import (
	"slices"
	"testing"

	"patrol/api"
	"patrol/dial"
)

// spare returns a list with some elements behind its end, and all of them as they have to stay.
func spare[T any](l []T, behind ...T) ([]T, func() []T, []T) {
	all := append(slices.Clone(l), behind...)
	return all[:len(l)], func() []T { return all }, slices.Clone(all)
}

// TestR6Arcs checks that the sets of angles neither change nor share what they are given (R6).
func TestR6Arcs(t *testing.T) {
	extra := arcs(1, 1, 2, 2, 3, 3)
	for _, from := range [][]api.Arc{arcs(5, 3), arcs(5, 3, 43190, 20), arcs(43190, 20, 5, 3, 7, 0), arcs(0, 3, 100, 5, 43190, 9), arcs(0, api.Ring-1)} {
		l, now, before := spare(from, extra...)
		o, nowO, beforeO := spare(arcs(43000, 300, 6, 1), extra...)
		var results [][]api.Arc
		for _, f := range operations() {
			r, _ := f.f(l, o)
			again, _ := f.f(l, nil)
			backwards, _ := f.f(nil, l)
			results = append(results, r, again, backwards)
		}
		r, _ := dial.Normal(l)
		results = append(results, r)
		for _, by := range []int{0, 1, 600} {
			r, _ = dial.Grow(l, by)
			results = append(results, r)
		}
		dial.Size(l)
		dial.Covers(l, o)
		for k, r := range results {
			want := slices.Clone(r)
			for n, other := range results {
				if n != k {
					overwrite(other, api.Arc{From: 9, Len: 9})
				}
			}
			same(t, "a result", r, want)
			overwrite(r, api.Arc{From: 9, Len: 9})
		}
		same(t, "the first list", now(), before)
		same(t, "the second list", nowO(), beforeO)
	}
}

// overwrite changes a list, up to its capacity.
func overwrite[T any](l []T, x T) {
	l = l[:cap(l)]
	for k := range l {
		l[k] = x
	}
}

// TestR6Keys checks the same of keys and marks.
func TestR6Keys(t *testing.T) {
	l, now, before := spare([]api.Key{key(1, 0, 7), key(4, 0, 7), key(9, 1, 3)}, key(2, 2, 2), key(1, 1, 1))
	ms, nowMs, beforeMs := spare([]api.Mark{full(0, 0, 0, 7), full(0, 0, 2, 7), full(3, 3, 1, 3)}, mark(9, 9, 3, 0, 0))
	dial.CheckKeys(l, fair)
	dial.Rival(l, key(7, 0, 7), fair)
	dial.Propose(l, 0, 1, fair)
	ids, _ := dial.Makers(l, ms[0], fair)
	pairs, _ := dial.Pairs(l, ms[0], fair)
	unread, _ := dial.Unread(l, ms, fair)
	at, _ := dial.Angles(l[0], ms[0], fair)
	dial.Print(ms)
	read, _ := dial.Parse("0 0 0 ???#........\n")
	overwrite(ids, -1)
	overwrite(pairs, [2]int{-1, -1})
	overwrite(unread, -1)
	overwrite(at, api.Arc{})
	overwrite(read, api.Mark{})
	same(t, "the keys", now(), before)
	same(t, "the marks", nowMs(), beforeMs)
	ids, _ = dial.Makers(l, ms[0], fair)
	same(t, "Makers once more", ids, []int{1, 4})
	unread, _ = dial.Unread(l, ms, fair)
	same(t, "Unread once more", unread, []int{1})
	at, _ = dial.Angles(l[0], ms[0], fair)
	same(t, "Angles once more", at, arcs(43197, 6))
	read, _ = dial.Parse("0 0 0 ???#........\n")
	same(t, "Parse once more", read, []api.Mark{mark(0, 0, 0, 8, 4095&^15)})
}
