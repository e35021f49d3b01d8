package custody_test

import (
	"iter"
	"maps"
	"slices"

	"patrol/api"
)

// entriesOf returns the entries of a key.
func entriesOf(c api.Custody, key int) []api.Entry {
	return slices.DeleteFunc(slices.Clone(c.Entries), func(x api.Entry) bool { return x.Key != key })
}

// places returns the places of a key that is not lost.
func places(c api.Custody) []int {
	l := []int{api.Board}
	for _, p := range c.People {
		l = append(l, p.ID)
	}
	return l
}

// stand is what a key stands at in the middle of a history: its place, and how often each entry stands in it, and moves that were not recorded.
type stand struct {
	place, gaps int
	done        [api.MaxOfKey]int
}

// after is the definition of a possible move, and of what it does.
func after(c api.Custody, l []api.Entry, s stand, m api.Move) (stand, bool) {
	if m.Entry == 0 {
		is := slices.Contains(places(c), m.To) && m.To != s.place && s.place != api.Nobody && m.Time >= 0 && m.Time <= api.MaxTime
		return stand{m.To, s.gaps + 1, s.done}, is
	}
	for k, x := range l {
		if x.ID != m.Entry {
			continue
		}
		is := m.To == 0 && x.At.Lo <= m.Time && m.Time <= x.At.Hi
		s.done[k]++
		switch x.Kind {
		case api.CuPass:
			is = is && s.place == x.From
			s.place = x.To
		case api.CuCopy:
			is = is && s.place == x.From
		case api.CuLose:
			is = is && s.place == x.From
			s.place = api.Nobody
		case api.CuFind:
			is = is && s.place == api.Nobody
			s.place = x.To
		}
		return s, is
	}
	return s, false
}

// isWhole reports whether each entry stands just once in a history, and not too many moves were not recorded.
func isWhole(c api.Custody, l []api.Entry, s stand) bool {
	for k := range l {
		if s.done[k] != 1 {
			return false
		}
	}
	return s.gaps <= c.Gaps
}

// isHistory is the definition of a history.
func isHistory(c api.Custody, key int, l []api.Move) bool {
	entries := entriesOf(c, key)
	var s stand
	for k, m := range l {
		next, is := after(c, entries, s, m)
		if !is || k > 0 && m.Time < l[k-1].Time {
			return false
		}
		s = next
	}
	return isWhole(c, entries, s)
}

// histories yields all histories of a key whose moves are at times from lo to hi.
func histories(c api.Custody, key, lo, hi int) iter.Seq[[]api.Move] {
	entries := entriesOf(c, key)
	var extend func(l []api.Move, s stand, yield func([]api.Move) bool) bool
	extend = func(l []api.Move, s stand, yield func([]api.Move) bool) bool {
		if isWhole(c, entries, s) && !yield(l) {
			return false
		}
		now := lo
		if len(l) > 0 {
			now = l[len(l)-1].Time
		}
		for t := now; t <= hi; t++ {
			for _, m := range allMoves(c, entries, s, t) {
				if next, is := after(c, entries, s, m); is && !extend(append(slices.Clip(l), m), next, yield) {
					return false
				}
			}
		}
		return true
	}
	return func(yield func([]api.Move) bool) { extend(nil, stand{}, yield) }
}

// allMoves returns the moves that can come next at a time, and some that cannot.
func allMoves(c api.Custody, entries []api.Entry, s stand, t int) []api.Move {
	var l []api.Move
	for k, x := range entries {
		if s.done[k] == 0 {
			l = append(l, api.Move{Entry: x.ID, Time: t})
		}
	}
	if s.gaps < c.Gaps {
		for _, to := range places(c) {
			l = append(l, unrecorded(to, t))
		}
	}
	return l
}

// heldBehind is the definition of the place of a key behind a time of a history, and of who has copies then.
func heldBehind(c api.Custody, key int, l []api.Move, t int) (int, []int) {
	entries := entriesOf(c, key)
	var s stand
	for _, m := range l {
		if m.Time <= t {
			s, _ = after(c, entries, s, m)
		}
	}
	return s.place, copiersOf(entries, s)
}

// copiersOf returns who has copies, in increasing order.
func copiersOf(entries []api.Entry, s stand) []int {
	ids := map[int]bool{}
	for k, x := range entries {
		if x.Kind == api.CuCopy && s.done[k] > 0 {
			ids[x.From] = true
		}
	}
	return slices.Sorted(maps.Keys(ids))
}

// isOnDuty is the definition of a person who is on duty.
func isOnDuty(c api.Custody, who, t int) bool {
	for _, p := range c.People {
		for _, x := range p.Duty {
			if p.ID == who && x.Lo <= t && t <= x.Hi {
				return true
			}
		}
	}
	return false
}

// useFits is the definition of a use that fits a history of its key.
func useFits(c api.Custody, l []api.Move, u api.Use) bool {
	place, copiers := heldBehind(c, u.Key, l, u.Time)
	return isOnDuty(c, u.Who, u.Time) && (place == u.Who || slices.Contains(copiers, u.Who))
}

// allFit reports whether all uses of a key fit a history.
func allFit(c api.Custody, key int, l []api.Move, uses []api.Use) bool {
	return !slices.ContainsFunc(uses, func(u api.Use) bool { return u.Key == key && !useFits(c, l, u) })
}

// fitTogether is the definition of Fits, if what matters lies from lo to hi.
func fitTogether(c api.Custody, uses []api.Use, lo, hi int) bool {
	for _, key := range c.Keys {
		is := false
		for l := range histories(c, key, lo, hi) {
			if allFit(c, key, l, uses) {
				is = true
				break
			}
		}
		if !is {
			return false
		}
	}
	return true
}

// isConsistent reports whether a key has a history, if its entries lie from lo to hi.
func isConsistent(c api.Custody, key, lo, hi int) bool {
	for range histories(c, key, lo, hi) {
		return true
	}
	return false
}

// course tells, time by time from lo to hi, at what a key can stand behind a time, if the uses of it that are not later fit, and all of its moves are from lo on.
type course struct {
	c       api.Custody
	entries []api.Entry
	lo, hi  int
	behind  map[int][]stand
	ends    map[moment]bool
}

// moment is a stand of a key before the moves at a time.
type moment struct {
	at stand
	t  int
}

// courseOf goes through the times from lo to hi.
func courseOf(c api.Custody, key, lo, hi int, l []api.Use) *course {
	x := &course{c: c, entries: entriesOf(c, key), lo: lo, hi: hi, behind: map[int][]stand{}, ends: map[moment]bool{}}
	now := []stand{{}}
	for t := lo; t <= hi; t++ {
		now = x.closure(now, t)
		now = slices.DeleteFunc(now, func(s stand) bool {
			return slices.ContainsFunc(l, func(u api.Use) bool {
				return u.Key == key && u.Time == t && (!isOnDuty(c, u.Who, t) || s.place != u.Who && !slices.Contains(copiersOf(x.entries, s), u.Who))
			})
		})
		x.behind[t] = slices.Clone(now)
	}
	return x
}

// closure returns the stands that come of others by any number of moves at a time.
func (x *course) closure(l []stand, t int) []stand {
	l = slices.Clone(l)
	is := map[stand]bool{}
	for _, s := range l {
		is[s] = true
	}
	for k := 0; k < len(l); k++ {
		for _, m := range allMoves(x.c, x.entries, l[k], t) {
			if next, can := after(x.c, x.entries, l[k], m); can && !is[next] {
				is[next] = true
				l = append(l, next)
			}
		}
	}
	return l
}

// canEnd reports whether a stand can come to the end of a history, by moves from a time on.
func (x *course) canEnd(s stand, t int) bool {
	if t > x.hi {
		return isWhole(x.c, x.entries, s)
	}
	end, is := x.ends[moment{s, t}]
	if is {
		return end
	}
	end = x.canEnd(s, t+1)
	for _, m := range allMoves(x.c, x.entries, s, t) {
		if next, can := after(x.c, x.entries, s, m); can && !end {
			end = x.canEnd(next, t)
		}
	}
	x.ends[moment{s, t}] = end
	return end
}

// stands returns at what the key can stand behind a time, in some history.
func (x *course) stands(t int) []stand {
	return slices.DeleteFunc(slices.Clone(x.behind[t]), func(s stand) bool { return !x.canEnd(s, t+1) })
}

// isPossible reports whether there is a history that the uses fit.
func (x *course) isPossible() bool {
	return slices.ContainsFunc(x.behind[x.hi], func(s stand) bool { return isWhole(x.c, x.entries, s) })
}

// holders returns the places of a key behind a time, copiers who has copies then, and hands who of them is on duty.
func (x *course) holders(t int) []int {
	ids := map[int]bool{}
	for _, s := range x.stands(t) {
		ids[s.place] = true
	}
	return slices.Sorted(maps.Keys(ids))
}

func (x *course) copiers(t int) []int {
	ids := map[int]bool{}
	for _, s := range x.stands(t) {
		for _, id := range copiersOf(x.entries, s) {
			ids[id] = true
		}
	}
	return slices.Sorted(maps.Keys(ids))
}

func (x *course) hands(s api.Span) []int {
	ids := map[int]bool{}
	for t := s.Lo; t <= s.Hi; t++ {
		for _, id := range append(x.holders(t), x.copiers(t)...) {
			if isOnDuty(x.c, id, t) {
				ids[id] = true
			}
		}
	}
	return slices.Sorted(maps.Keys(ids))
}
