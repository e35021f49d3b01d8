package clock

import (
	"iter"
	"slices"

	"patrol/api"
)

// mostLinks is how many links a walk that is checked can have.
const mostLinks = 60

// search finds short walks from one node: length has the length of the shortest one to each node that was found, and by the index of its last link (-1: none).
type search struct {
	links      []api.Link
	length, by []int
}

// newSearch returns a search from a node. All other nodes are taken to be far away at first; links lead to each of them, so that the search finds a shorter walk.
func (g graph) newSearch(from int) search {
	n := len(g.nodes)
	s := search{g.links, slices.Repeat([]int{far}, n), slices.Repeat([]int{-1}, n)}
	s.length[from] = 0
	return s
}

// take reports whether the link with an index leads to its end by a shorter walk than any that was found, and notes this walk.
func (s search) take(k int) bool {
	l := s.links[k]
	length := s.length[l.From] + l.Most
	if length >= s.length[l.To] {
		return false
	}
	s.length[l.To], s.by[l.To] = length, k
	return true
}

// back yields the indices of the links of the walk to a node, the last one first. It goes on without end along a cycle.
func (s search) back(node int) iter.Seq[int] {
	return func(yield func(int) bool) {
		for k := s.by[node]; k >= 0; k = s.by[s.links[k].From] {
			if !yield(k) {
				return
			}
		}
	}
}

// loop returns the cycle that the link with an index, which was just taken, closes; nothing if it closes none.
func (s search) loop(last int) []int {
	cycle := []int{last}
	for k := range s.back(s.links[last].From) {
		if k == last {
			slices.Reverse(cycle)
			return cycle
		}
		cycle = append(cycle, k)
	}
	return nil
}

// run takes links until no walk becomes shorter, or a cycle is closed, which it returns. Such a cycle has a length of less than 0: otherwise its last link would not have made the walk shorter.
func (s search) run() []int {
	var cycle []int
rounds:
	for again := true; again; {
		again = false
		for k := range s.links {
			if !s.take(k) {
				continue
			}
			again = true
			cycle = s.loop(k)
			if len(cycle) > 0 {
				break rounds
			}
		}
	}
	return cycle
}

// cycle returns a cycle of links with a length of less than 0; nothing if there is none.
func (g graph) cycle() []int { return g.newSearch(origin).run() }

// walk returns the length of a walk along links, and whether it is one from one node to another one.
func (g graph) walk(from, to int, path []int) (int, bool) {
	length := 0
	for _, k := range path {
		if !isIndex(k, len(g.links)) || g.links[k].From != from {
			return 0, false
		}
		from = g.links[k].To
		length += g.links[k].Most
	}
	return length, from == to
}

// Path returns a walk that proves the bound from a node to another one.
func Path(r api.Record, from, to int) ([]int, api.Errno) {
	if e := Check(r); e != api.OK {
		return nil, e
	}
	g := newGraph(r)
	if n := len(g.nodes); !isIndex(from, n) || !isIndex(to, n) {
		return nil, api.ErrArg
	}
	s := g.newSearch(from)
	if len(s.run()) > 0 {
		return nil, api.ErrClash
	}
	path := slices.Collect(s.back(to))
	slices.Reverse(path)
	return path, api.OK
}

// CheckPath returns the length of a walk from a node to another one.
func CheckPath(r api.Record, from, to int, path []int) (int, api.Errno) {
	if e := Check(r); e != api.OK {
		return 0, e
	}
	g := newGraph(r)
	if n := len(g.nodes); !isIndex(from, n) || !isIndex(to, n) {
		return 0, api.ErrArg
	}
	if len(path) > mostLinks {
		return 0, api.ErrLimit
	}
	length, ok := g.walk(from, to, path)
	if !ok {
		return 0, api.ErrProof
	}
	return length, api.OK
}

// Clash returns a cycle that proves that a record is not consistent; false if it is.
func Clash(r api.Record) ([]int, bool, api.Errno) {
	if e := Check(r); e != api.OK {
		return nil, false, e
	}
	cycle := newGraph(r).cycle()
	return cycle, len(cycle) > 0, api.OK
}

// CheckClash returns OK if a cycle proves that a record is not consistent.
func CheckClash(r api.Record, cycle []int) api.Errno {
	if e := Check(r); e != api.OK {
		return e
	}
	if len(cycle) > mostLinks {
		return api.ErrLimit
	}
	g := newGraph(r)
	if len(cycle) == 0 || !isIndex(cycle[0], len(g.links)) {
		return api.ErrProof
	}
	from := g.links[cycle[0]].From
	length, ok := g.walk(from, from, cycle)
	if !ok || length >= 0 {
		return api.ErrProof
	}
	return api.OK
}

// consistent reports whether a valid record is consistent.
func consistent(r api.Record) bool { return len(newGraph(r).cycle()) == 0 }

// Suspects returns the IDs of the strikes, and the indices of the sights, without each of which alone a record is consistent that is not so.
func Suspects(r api.Record) ([]int, []int, api.Errno) {
	if e := Check(r); e != api.OK {
		return nil, nil, e
	}
	if consistent(r) {
		return nil, nil, api.OK
	}
	var ids, sights []int
	for _, x := range r.Strikes {
		if consistent(without(r, x.ID)) {
			ids = append(ids, x.ID)
		}
	}
	for k := range r.Sights {
		if consistent(withoutSight(r, k)) {
			sights = append(sights, k)
		}
	}
	slices.Sort(ids)
	return ids, sights, api.OK
}

// Needed returns the indices of the sights without each of which alone the span of a strike is another one.
func Needed(r api.Record, strike int) ([]int, api.Errno) {
	if e := Check(r); e != api.OK {
		return nil, e
	}
	if !isIndex(strike, len(r.Strikes)) {
		return nil, api.ErrArg
	}
	span, e := timesOf(r, strikeNode(strike))
	if e != api.OK {
		return nil, e
	}
	var sights []int
	for k := range r.Sights {
		if wide, _ := timesOf(withoutSight(r, k), strikeNode(strike)); wide != span {
			sights = append(sights, k)
		}
	}
	return sights, api.OK
}
