package clock

import (
	"slices"

	"patrol/api"
)

// far is more than any bound, and stays so when a walk that enters no node twice goes on from there.
const far = 1 << 40

// table has a row for each node of a consistent record, with the bounds from there to each node.
type table [][]int

// solve returns the table of a graph; ErrClash if its record is not consistent.
func (g graph) solve() (table, api.Errno) {
	if len(g.cycle()) > 0 {
		return nil, api.ErrClash
	}
	t := make(table, len(g.nodes))
	for u := range t {
		t[u] = slices.Repeat([]int{far}, len(t))
		t[u][u] = 0
	}
	for _, l := range g.links {
		t[l.From][l.To] = min(t[l.From][l.To], l.Most)
	}
	for via, onward := range t {
		for _, walks := range t {
			shorten(walks, onward, walks[via])
		}
	}
	return t, api.OK
}

// shorten lowers the lengths of walks to those of walks that go to another node, and onward from there.
func shorten(walks, onward []int, there int) {
	for v, more := range onward {
		walks[v] = min(walks[v], there+more)
	}
}

// least returns the least time of the node with an index.
func (t table) least(node int) int { return -t[node][origin] }

// greatest returns the greatest time of the node with an index.
func (t table) greatest(node int) int { return t[origin][node] }

// times returns the span of the times of the node with an index.
func (t table) times(node int) api.Span { return ends(node, t.least, t.greatest) }

// timesOf returns the span of the times of a node of a valid record in which further positions are marked; ErrClash if it is not consistent.
func timesOf(r api.Record, x api.Node, further ...int) (api.Span, api.Errno) {
	g := newGraph(r, further...)
	t, e := g.solve()
	if e != api.OK {
		return api.Span{}, e
	}
	return t.times(g.index[x]), api.OK
}

// Tight returns a row for each node, with the bounds from there to each node.
func Tight(r api.Record) ([][]int, api.Errno) {
	if e := Check(r); e != api.OK {
		return nil, e
	}
	return newGraph(r).solve()
}

// Spans returns the span of the times of each strike.
func Spans(r api.Record) ([]api.Span, api.Errno) {
	t, e := Tight(r)
	if e != api.OK {
		return nil, e
	}
	var l []api.Span
	for k := range r.Strikes {
		l = append(l, table(t).times(firstStrike+k))
	}
	return l, api.OK
}

// Inserted returns the span of the times at which the dial was put in.
func Inserted(r api.Record) (api.Span, api.Errno) {
	if e := Check(r); e != api.OK {
		return api.Span{}, e
	}
	return timesOf(r, api.Node{Kind: api.NoIn})
}

// Removed returns the span of the times at which the dial was taken out.
func Removed(r api.Record) (api.Span, api.Errno) {
	if e := Check(r); e != api.OK {
		return api.Span{}, e
	}
	return timesOf(r, api.Node{Kind: api.NoOut})
}

// isIndex reports whether an integer is an index of a list of n elements.
func isIndex(k, n int) bool { return k >= 0 && k < n }

// Between returns the least and the greatest time from the strike a to the strike b.
func Between(r api.Record, a, b int) (api.Span, api.Errno) {
	if e := Check(r); e != api.OK {
		return api.Span{}, e
	}
	if n := len(r.Strikes); !isIndex(a, n) || !isIndex(b, n) {
		return api.Span{}, api.ErrArg
	}
	t, e := newGraph(r).solve()
	if e != api.OK {
		return api.Span{}, e
	}
	u, v := firstStrike+a, firstStrike+b
	return api.Span{Lo: -t[v][u], Hi: t[u][v]}, api.OK
}

// When returns the span of the times at which the needle arrives at a position.
func When(r api.Record, pos int) (api.Span, api.Errno) {
	if e := Check(r); e != api.OK {
		return api.Span{}, e
	}
	if pos < r.Session.Zero.Lo || pos > r.Session.End.Hi+1 {
		return api.Span{}, api.ErrRange
	}
	return timesOf(r, arrival(pos), pos)
}

// timing returns what a function tells of each node of the table of a record.
func timing(r api.Record, of func(t table, node int) int) ([]int, api.Errno) {
	t, e := Tight(r)
	if e != api.OK {
		return nil, e
	}
	times := make([]int, len(t))
	for node := range t {
		times[node] = of(t, node)
	}
	return times, api.OK
}

// First returns the timing with the least times.
func First(r api.Record) ([]int, api.Errno) { return timing(r, table.least) }

// Last returns the timing with the greatest times.
func Last(r api.Record) ([]int, api.Errno) { return timing(r, table.greatest) }

// CheckTimes returns OK if times are a timing of a record.
func CheckTimes(r api.Record, times []int) api.Errno {
	if e := Check(r); e != api.OK {
		return e
	}
	g := newGraph(r)
	if len(times) != len(g.nodes) || times[origin] != 0 {
		return api.ErrProof
	}
	for _, at := range times {
		if at < -api.MaxTime || at > 2*api.MaxTime {
			return api.ErrProof
		}
	}
	for _, l := range g.links {
		if times[l.To] > times[l.From]+l.Most {
			return api.ErrProof
		}
	}
	return api.OK
}

// Fits reports whether some timing has given times of the strikes.
func Fits(r api.Record, strikes []int) (bool, api.Errno) {
	if e := Check(r); e != api.OK {
		return false, e
	}
	if len(strikes) != len(r.Strikes) {
		return false, api.ErrArg
	}
	for _, at := range strikes {
		if !isTime(at) {
			return false, api.ErrArg
		}
	}
	t, e := newGraph(r).solve()
	return e == api.OK && t.allows(strikes), api.OK
}

// allows reports whether times of the strikes keep the bounds between them and the origin. Bounds are sharp, so that the other nodes then have times, too.
func (t table) allows(strikes []int) bool {
	type fixed struct{ node, time int }
	all := []fixed{{origin, 0}}
	for k, at := range strikes {
		all = append(all, fixed{firstStrike + k, at})
	}
	for _, u := range all {
		for _, v := range all {
			if v.time-u.time > t[u.node][v.node] {
				return false
			}
		}
	}
	return true
}
