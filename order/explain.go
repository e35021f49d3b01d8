package order

import "patrol/api"

// maxPieces is the greatest number of pieces of an explanation that is checked. None needs more: below the root, there are less than api.MaxDepth nodes on a path, and at most api.MaxVisits paths.
const maxPieces = 300

// explain returns the pieces of a part that is matched.
func (m timed) explain(p part) []api.Piece {
	var l []api.Piece
	if p.times == 0 {
		l = append(l, api.Piece{Node: p.node, From: p.from, To: p.to})
	}
	c, _ := m.choose(p)
	for _, x := range c.parts {
		l = append(l, m.explain(x)...)
	}
	return l
}

// Explain returns an explanation of a list of visits; ErrNone if the list does not fulfil the order.
func Explain(o api.Order, l []api.Visit) ([]api.Piece, api.Errno) {
	if e := checkVisits(o, l); e != api.OK {
		return nil, e
	}
	m := newTimed(o, l)
	if !m.matches(m.whole()) {
		return nil, api.ErrNone
	}
	return m.explain(m.whole()), api.OK
}

// reader reads an explanation, piece by piece, and panics at the first thing that is wrong.
type reader struct {
	timed
	left []api.Piece
}

// require panics unless a thing is right.
func require(right bool) {
	if !right {
		panic(halt{e: api.ErrProof})
	}
}

// read reads the piece of a node, which has to begin with the visit from and to end ahead of the visit limit or there, and all pieces below it; it returns the end of the piece.
func (r *reader) read(node, from, limit int) int {
	require(len(r.left) > 0)
	x := r.left[0]
	r.left = r.left[1:]
	require(x.Node == node && x.From == from && x.From < x.To && x.To <= limit)
	o, p := r.nodes[node], part{node: node, from: x.From, to: x.To}
	switch o.Kind {
	case api.OrThen:
		at := r.read(r.first(node), p.from, p.to-1)
		r.link(gapLinks(o.Gap, at))
		r.last(r.second(node), at, p.to)
	case api.OrEither:
		require(len(r.left) > 0)
		kid := r.left[0].Node
		require(kid == r.first(node) || kid == r.second(node))
		r.last(kid, p.from, p.to)
	case api.OrWithin:
		r.link(withinLinks(p, o.Most))
		r.last(r.first(node), p.from, p.to)
	case api.OrTimes:
		r.repeat(p)
	default:
		require(r.isLeaf(p))
	}
	return p.to
}

// last reads the last piece of a part, which has to end where the part does.
func (r *reader) last(node, from, to int) { require(r.read(node, from, to) == to) }

// link panics unless the times keep some links.
func (r *reader) link(l []api.Link) { require(keeps(r.times, l)) }

// repeat reads the pieces of the repetitions of a part.
func (r *reader) repeat(p part) {
	o, at, times := r.nodes[p.node], p.from, 0
	for at < p.to {
		if times > 0 {
			r.link(gapLinks(o.Gap, at))
		}
		at = r.read(r.first(p.node), at, p.to)
		times++
	}
	require(has(api.Span{Lo: o.Lo, Hi: o.Hi}, times))
}

// CheckExplain checks an explanation.
func CheckExplain(o api.Order, l []api.Visit, p []api.Piece) (e api.Errno) {
	if e := checkVisits(o, l); e != api.OK {
		return e
	}
	if len(p) > maxPieces {
		return api.ErrLimit
	}
	defer func() {
		if x, is := recover().(halt); is {
			e = x.e
		}
	}()
	r := reader{newTimed(o, l), p}
	r.last(0, 0, len(l))
	require(len(r.left) == 0)
	return api.OK
}
