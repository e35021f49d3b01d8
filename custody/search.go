package custody

import (
	"iter"
	"slices"

	"patrol/api"
)

// condition is what a history has to keep behind one of some times; next returns the first of these times that is not before t, false if there is none.
type condition interface{ next(t int) (int, bool) }

// times are spans, one behind the other, behind one time of which a condition has to be kept.
type times []api.Span

// next returns the first of the times that is not before t; false if there is none.
func (l times) next(t int) (int, bool) {
	for _, x := range l {
		if t <= x.Hi {
			return max(t, x.Lo), true
		}
	}
	return 0, false
}

// moment returns the times of which t is the only one.
func moment(t int) times { return times{{Lo: t, Hi: t}} }

// duty returns the times of a span at which a person is on duty.
func duty(p api.Person, s api.Span) times {
	var l times
	for _, x := range p.Duty {
		x = api.Span{Lo: max(x.Lo, s.Lo), Hi: min(x.Hi, s.Hi)}
		if x.Lo <= x.Hi {
			l = append(l, x)
		}
	}
	return l
}

// The kinds of conditions.
type (
	// placed: the key is at a place.
	placed struct {
		times
		place int
	}
	// copied: a person has a copy.
	copied struct {
		times
		who int
	}
	// handled: a person has the key or a copy in hand.
	handled struct {
		times
		who int
	}
	// done: the entry with an index was done.
	done struct {
		times
		entry int
	}
	// pending: the entry with an index was not done.
	pending struct {
		times
		entry int
	}
)

// keeps reports whether a condition is kept in a state.
func (y story) keeps(s state, c condition) bool {
	switch c := c.(type) {
	case placed:
		return s.place == c.place
	case copied:
		return y.hasCopy(s, c.who)
	case handled:
		return y.inHand(s, c.who)
	case done:
		return s.done&(1<<c.entry) != 0
	case pending:
		return s.done&(1<<c.entry) == 0
	}
	return false
}

// reach is how early a state can be reached, from which state, and by which move, if it is one. A move at the time t has the tick 2t, and what is behind t has the tick 2t+1.
type reach struct {
	tick int
	from state
	move api.Move
}

// search looks for a history that meets conditions, one behind the other. It needs to know no more of a state than how early it is reached: what can follow a state can also follow it if it is reached earlier.
type search struct {
	story
	conditions []condition
	best       map[state]reach
}

// choices yields all moves, each one as early as it can be from a time t on; not all of them are possible in each state.
func (x *search) choices(t int) iter.Seq[api.Move] {
	return func(yield func(api.Move) bool) {
		for _, entry := range x.entries {
			if !yield(api.Move{Entry: entry.ID, Time: max(t, entry.At.Lo)}) {
				return
			}
		}
		if !yield(api.Move{To: api.Board, Time: t}) {
			return
		}
		for _, p := range x.people {
			if !yield(api.Move{To: p.ID, Time: t}) {
				return
			}
		}
	}
}

// meet returns the state in which one condition more is met than in a state that is reached at a tick, and when; false if it cannot be met there.
func (x *search) meet(s state, tick int) (state, reach, bool) {
	if s.met == len(x.conditions) || !x.keeps(s, x.conditions[s.met]) {
		return state{}, reach{}, false
	}
	t, is := x.conditions[s.met].next(tick / 2)
	next := s
	next.met++
	return next, reach{tick: 2*t + 1, from: s}, is
}

// isLate reports whether an entry that was not done, or the next condition, cannot be any more behind a state that is reached at a tick.
func (x *search) isLate(s state, tick int) bool {
	for k, entry := range x.entries {
		if s.done&(1<<k) == 0 && 2*entry.At.Hi < tick {
			return true
		}
	}
	if s.met == len(x.conditions) {
		return false
	}
	_, is := x.conditions[s.met].next(tick / 2)
	return !is
}

// moves yields the states that can come next behind a state, and how each is reached from it as early as can be.
func (x *search) moves(s state) iter.Seq2[state, reach] {
	return func(yield func(state, reach) bool) {
		tick := x.best[s].tick
		if next, r, can := x.meet(s, tick); can && !yield(next, r) {
			return
		}
		for m := range x.choices((tick + 1) / 2) {
			if next, can := x.play(s, m); can && !yield(next, reach{2 * m.Time, s, m}) {
				return
			}
		}
	}
}

// history returns the moves by which a state is reached.
func (x *search) history(s state) []api.Move {
	var l []api.Move
	for s != x.start() {
		r := x.best[s]
		if r.from.met == s.met {
			l = append(l, r.move)
		}
		s = r.from
	}
	slices.Reverse(l)
	return l
}

// find returns a history that meets conditions, in their order, of those that have the fewest moves that were not recorded; false if there is none.
func (y story) find(conditions ...condition) ([]api.Move, bool) {
	x := &search{story: y, conditions: conditions, best: map[state]reach{y.start(): {}}}
	// All ways to a state have as many steps, so that none of a layer is reached from a later one.
	for layer := []state{y.start()}; len(layer) > 0; {
		var further []state
		for _, s := range layer {
			if x.isTold(s) && s.met == len(conditions) {
				return x.history(s), true
			}
			for next, r := range x.moves(s) {
				old, is := x.best[next]
				if !is && x.isLate(next, r.tick) {
					continue // it leads nowhere; most states are late, so that this saves most of the search
				}
				if !is {
					further = append(further, next)
				}
				if !is || r.tick < old.tick {
					x.best[next] = r
				}
			}
		}
		layer = further
	}
	return nil, false
}

// can reports whether a history meets conditions, in their order.
func (y story) can(conditions ...condition) bool {
	_, is := y.find(conditions...)
	return is
}
