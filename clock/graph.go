package clock

import (
	"iter"
	"slices"

	"patrol/api"
)

// The indices of the first nodes; those of the strikes come next, and then those of the arrivals.
const (
	origin      = 0
	firstStrike = 3
)

// graph has the nodes of a record, the index of each one, and the links between them.
type graph struct {
	nodes []api.Node
	index map[api.Node]int
	links []api.Link
}

// strikeNode returns the node of the strike with an index.
func strikeNode(k int) api.Node { return api.Node{Kind: api.NoStrike, N: k} }

// arrival returns the node at which the needle arrives at a position.
func arrival(pos int) api.Node { return api.Node{Kind: api.NoArrive, N: pos} }

// told yields the events of which a record tells the time, with this time.
func told(r api.Record) iter.Seq2[api.Node, api.Span] {
	return func(yield func(api.Node, api.Span) bool) {
		if !yield(api.Node{Kind: api.NoIn}, r.Session.In) || !yield(api.Node{Kind: api.NoOut}, r.Session.Out) {
			return
		}
		for _, x := range r.Sights {
			if !yield(strikeNode(place(r.Strikes, x.Strike)), x.At) {
				return
			}
		}
	}
}

// row yields the events of a record at which the needle is seen, in their order, with its positions.
func row(r api.Record) iter.Seq2[api.Node, api.Span] {
	return func(yield func(api.Node, api.Span) bool) {
		if !yield(api.Node{Kind: api.NoIn}, r.Session.Zero) {
			return
		}
		for k, x := range r.Strikes {
			if !yield(strikeNode(k), x.Pos) {
				return
			}
		}
		yield(api.Node{Kind: api.NoOut}, r.Session.End)
	}
}

// marked returns the marked positions of a record, and further ones, in increasing order.
func marked(r api.Record, further ...int) []int {
	all := slices.Clone(further)
	for _, x := range row(r) {
		all = append(all, x.Lo, x.Hi+1)
	}
	slices.Sort(all)
	return slices.Compact(all)
}

// newGraph returns the graph of a valid record in which further positions are marked.
func newGraph(r api.Record, further ...int) graph {
	g := graph{nodes: []api.Node{{Kind: api.NoOrigin}, {Kind: api.NoIn}, {Kind: api.NoOut}}, index: map[api.Node]int{}}
	for k := range r.Strikes {
		g.nodes = append(g.nodes, strikeNode(k))
	}
	for _, pos := range marked(r, further...) {
		g.nodes = append(g.nodes, arrival(pos))
	}
	for k, x := range g.nodes {
		g.index[x] = k
	}
	for _, part := range []iter.Seq[api.Link]{g.ofTimes(r), g.ofOrder(r), g.ofNeedle(r), g.ofRate(r)} {
		g.links = slices.AppendSeq(g.links, part)
	}
	return g
}

// ofTimes yields the links that say when events were.
func (g graph) ofTimes(r api.Record) iter.Seq[api.Link] {
	return func(yield func(api.Link) bool) {
		for event, at := range told(r) {
			k := g.index[event]
			if !yield(api.Link{From: origin, To: k, Most: at.Hi}) || !yield(api.Link{From: k, To: origin, Most: -at.Lo}) {
				return
			}
		}
	}
}

// ofOrder yields the links that say that no event of the row is later than the next one.
func (g graph) ofOrder(r api.Record) iter.Seq[api.Link] {
	return func(yield func(api.Link) bool) {
		before := -1
		for event := range row(r) {
			k := g.index[event]
			if before >= 0 && !yield(api.Link{From: k, To: before}) {
				return
			}
			before = k
		}
	}
}

// ofNeedle yields the links that say where the needle was at events.
func (g graph) ofNeedle(r api.Record) iter.Seq[api.Link] {
	return func(yield func(api.Link) bool) {
		for event, x := range row(r) {
			k := g.index[event]
			if !yield(api.Link{From: k, To: g.index[arrival(x.Lo)]}) || !yield(api.Link{From: g.index[arrival(x.Hi+1)], To: k}) {
				return
			}
		}
	}
}

// ofRate yields the links that say how long the needle takes from one marked position to another one.
func (g graph) ofRate(r api.Record) iter.Seq[api.Link] {
	return func(yield func(api.Link) bool) {
		takes := turning(r.Session)
		for k := firstStrike + len(r.Strikes); k < len(g.nodes); k++ {
			for n := k + 1; n < len(g.nodes); n++ {
				secs := takes(way{g.nodes[k].N, g.nodes[n].N})
				if !yield(api.Link{From: k, To: n, Most: secs.Hi}) || !yield(api.Link{From: n, To: k, Most: -secs.Lo}) {
					return
				}
			}
		}
	}
}

// way is that of the needle from a position to a later one.
type way struct{ from, to int }

// ends returns the span of which lo and hi tell the ends.
func ends[T any](x T, lo, hi func(T) int) api.Span { return api.Span{Lo: lo(x), Hi: hi(x)} }

// turning returns a function that tells how many seconds the needle takes for a way in a session.
func turning(s api.Session) func(way) api.Span {
	down := func(w way) int { return (w.to - w.from) * api.Million / s.Rate.Hi }
	up := func(w way) int { return ((w.to-w.from)*api.Million + s.Rate.Lo - 1) / s.Rate.Lo }
	return func(w way) api.Span {
		secs := ends(w, down, up)
		for _, x := range s.Stops {
			if w.from <= x.At && x.At < w.to {
				secs.Lo += x.Secs.Lo
				secs.Hi += x.Secs.Hi
			}
		}
		return secs
	}
}
