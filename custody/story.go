package custody

import (
	"slices"

	"patrol/api"
)

// mostMoves is how many moves a list may have to be looked at.
const mostMoves = 20

// story is what a book tells of one key.
type story struct {
	people  []api.Person
	entries []api.Entry
	gaps    int
}

// state is where a key is in its story: the entries that were done, as bits, how many moves were not recorded, the place of the key, and how many conditions were met.
type state struct{ done, gaps, place, met int }

// storyOf returns the story of a key.
func storyOf(c api.Custody, key int) story {
	y := story{people: c.People, gaps: c.Gaps}
	for _, x := range c.Entries {
		if x.Key == key {
			y.entries = append(y.entries, x)
		}
	}
	return y
}

// open returns the story of a key; the error of Check, or ErrNone, if there is none.
func open(c api.Custody, key int) (story, api.Errno) {
	if e := Check(c); e != api.OK {
		return story{}, e
	}
	if !slices.Contains(c.Keys, key) {
		return story{}, api.ErrNone
	}
	return storyOf(c, key), api.OK
}

// without returns a story without the entry with an index.
func (y story) without(k int) story {
	y.entries = slices.Concat(y.entries[:k], y.entries[k+1:])
	return y
}

// start is the state before all moves.
func (y story) start() state { return state{place: api.Board} }

// isTold reports whether all entries were done.
func (y story) isTold(s state) bool { return s.done == 1<<len(y.entries)-1 }

// before returns the place at which an entry is possible.
func before(x api.Entry) int {
	if x.Kind == api.CuFind {
		return api.Nobody
	}
	return x.From
}

// behind returns the place of the key behind an entry.
func behind(x api.Entry) int {
	switch x.Kind {
	case api.CuLose:
		return api.Nobody
	case api.CuCopy:
		return x.From
	}
	return x.To
}

// play returns the state behind a move; false if the move is not possible.
func (y story) play(s state, m api.Move) (state, bool) {
	if m.Entry == 0 {
		can := s.gaps < y.gaps && s.place != api.Nobody && m.To != s.place && isKept(y.people, m.To) && isTime(m.Time)
		s.gaps++
		s.place = m.To
		return s, can
	}
	k := slices.IndexFunc(y.entries, func(x api.Entry) bool { return x.ID == m.Entry })
	if k < 0 || m.To != 0 || s.done&(1<<k) != 0 {
		return s, false
	}
	x := y.entries[k]
	can := s.place == before(x) && has(x.At, m.Time)
	s.done |= 1 << k
	s.place = behind(x)
	return s, can
}

// isHistory reports whether a list of moves is a history.
func (y story) isHistory(l []api.Move) bool {
	s, now := y.start(), 0
	for _, m := range l {
		next, can := y.play(s, m)
		if !can || m.Time < now {
			return false
		}
		s, now = next, m.Time
	}
	return y.isTold(s)
}

// checkHistory returns OK if a list of moves is a history; ErrLimit if it is too long, or else ErrProof.
func (y story) checkHistory(l []api.Move) api.Errno {
	if len(l) > mostMoves {
		return api.ErrLimit
	}
	if !y.isHistory(l) {
		return api.ErrProof
	}
	return api.OK
}

// at returns the state behind a time of a history.
func (y story) at(l []api.Move, t int) state {
	s := y.start()
	for _, m := range l {
		if m.Time <= t {
			s, _ = y.play(s, m)
		}
	}
	return s
}

// hasCopy reports whether a person has a copy in a state.
func (y story) hasCopy(s state, who int) bool {
	for k, x := range y.entries {
		if x.Kind == api.CuCopy && x.From == who && s.done&(1<<k) != 0 {
			return true
		}
	}
	return false
}

// inHand reports whether a person has the key or a copy in hand in a state.
func (y story) inHand(s state, who int) bool { return s.place == who || y.hasCopy(s, who) }

// idsOf returns the IDs of the persons for whom a function reports true.
func (y story) idsOf(is func(p api.Person) bool) []int {
	var ids []int
	for _, p := range y.people {
		if is(p) {
			ids = append(ids, p.ID)
		}
	}
	return ids
}

// CheckHistory returns OK if a list is a history of a key.
func CheckHistory(c api.Custody, key int, l []api.Move) api.Errno {
	y, e := open(c, key)
	if e != api.OK {
		return e
	}
	return y.checkHistory(l)
}

// Held returns the place of a key, and who has copies, behind a time of a history.
func Held(c api.Custody, key int, l []api.Move, t int) (int, []int, api.Errno) {
	y, e := open(c, key)
	if e != api.OK {
		return 0, nil, e
	}
	if !isTime(t) {
		return 0, nil, api.ErrArg
	}
	if e := y.checkHistory(l); e != api.OK {
		return 0, nil, e
	}
	s := y.at(l, t)
	return s.place, y.idsOf(func(p api.Person) bool { return y.hasCopy(s, p.ID) }), api.OK
}
