package round

import (
	"iter"
	"slices"

	"patrol/api"
)

// constraint says that the time of a visit is at least a number, which follows from bounds below which no times fall.
type constraint interface {
	visit() int
	least(b bounds) int
}

// byClock is the constraint that the clock alone makes.
type byClock struct{ of, time int }

// byStart is that of the walk from the room Start.
type byStart struct{ of, time int }

// byWalk is that of the walk from another visit; arrive tells when it ends that begins at a time.
type byWalk struct {
	of, before int
	arrive     func(t int) int
}

// byGap says that the time of another visit is at most so much greater.
type byGap struct{ of, other, most int }

func (k byClock) visit() int { return k.of }
func (k byStart) visit() int { return k.of }
func (k byWalk) visit() int  { return k.of }
func (k byGap) visit() int   { return k.of }

func (k byClock) least(bounds) int { return k.time }
func (k byStart) least(bounds) int { return k.time }
func (k byWalk) least(b bounds) int {
	return k.arrive(b[k.before])
}
func (k byGap) least(b bounds) int { return b[k.other] - k.most }

// bounds has for each visit a number that its time is never less than.
type bounds []int

// raise raises a bound to what a constraint asks for; it reports whether the bound was less.
func (b bounds) raise(k constraint) bool {
	least := k.least(b)
	if least <= b[k.visit()] {
		return false
	}
	b[k.visit()] = least
	return true
}

// system is what times have to keep: constraints, and the greatest time of each visit, which is at most api.MaxTime.
type system struct {
	constraints []constraint
	most        []int
}

// with returns the system that asks for more.
func (s system) with(more ...constraint) system {
	return system{slices.Concat(s.constraints, more), s.most}
}

// settle lets constraints raise bounds until all are kept; false if some bound exceeds the greatest time then. All constraints ask for more if bounds are greater, so that the bounds are the least times, whatever the order is in which they are raised.
func (s system) settle(b bounds, raise func(k constraint) bool) bool {
	for again := true; again; {
		again = false
		for _, k := range s.constraints {
			if !raise(k) {
				continue
			}
			if b[k.visit()] > s.most[k.visit()] {
				return false
			}
			again = true
		}
	}
	return true
}

// solve returns the least times that keep a system; false if there are none.
func (s system) solve() ([]int, bool) {
	b := make(bounds, len(s.most))
	if !s.settle(b, b.raise) {
		return nil, false
	}
	return b, true
}

// pairs yields each two visits of a sequence.
func (q sequence) pairs() iter.Seq2[int, int] {
	return func(yield func(u, v int) bool) {
		for u := range q.reads {
			for v := range q.reads {
				if u != v && !yield(u, v) {
					return
				}
			}
		}
	}
}

// startTo returns the constraint of the walk from the room Start to a visit in a room.
func (t trial) startTo(of, room int) constraint {
	return byStart{of, t.earliest(t.Start, t.Since)[room]}
}

// walkTo returns the constraint of the walk to a visit in a room from another one, which is in the room from.
func (t trial) walkTo(of, room, before, from int) constraint {
	return byWalk{of, before, func(at int) int { return t.earliest(from, at)[room] }}
}

// comeTo returns the constraint of the walk to a visit of a sequence from what is before it.
func (t trial) comeTo(q sequence, visit int) constraint {
	if visit == 0 {
		return t.startTo(visit, q.rooms[visit])
	}
	return t.walkTo(visit, q.rooms[visit], visit-1, q.rooms[visit-1])
}

// system returns the system of the timings of a sequence whose record is consistent.
func (t trial) system(q sequence) system {
	var s system
	for visit := range q.reads {
		x := q.span(visit)
		s.constraints = append(s.constraints, byClock{visit, x.Lo})
		s.most = append(s.most, x.Hi)
	}
	for visit := range q.reads {
		s.constraints = append(s.constraints, t.comeTo(q, visit))
	}
	for u, v := range q.pairs() {
		s.constraints = append(s.constraints, byGap{v, u, q.gap(v, u)})
	}
	return s
}

// mirror makes the last times the first ones.
func mirror(t int) int { return api.MaxTime - t }

// mirrored returns the system of the mirrored timings of a sequence that has one: its least times are the greatest ones of these.
func (t trial) mirrored(q sequence) system {
	var s system
	for visit := range q.reads {
		x := q.span(visit)
		s.constraints = append(s.constraints, byClock{visit, mirror(x.Hi)})
		s.most = append(s.most, mirror(x.Lo))
	}
	for before := range q.reads[min(1, len(q.reads)):] {
		room, from := q.rooms[before+1], q.rooms[before]
		s.constraints = append(s.constraints, byWalk{before, before + 1, func(at int) int { return mirror(t.latest(room, mirror(at))[from]) }})
	}
	for u, v := range q.pairs() {
		s.constraints = append(s.constraints, byGap{u, v, q.gap(v, u)})
	}
	return s
}

// first returns the least times of a sequence; false if it has no timing.
func (t trial) first(q sequence) ([]int, bool) {
	if !q.isConsistent() {
		return nil, false
	}
	return t.system(q).solve()
}

// last returns the greatest times of a sequence; false if it has no timing.
func (t trial) last(q sequence) ([]int, bool) {
	if _, is := t.first(q); !is {
		return nil, false
	}
	times, is := t.mirrored(q).solve()
	for visit, at := range times {
		times[visit] = mirror(at)
	}
	return times, is
}

// end returns what a function tells of a sequence of a case; ErrNone if it has no timing.
func end(c api.Case, l []api.Read, of func(t trial, q sequence) ([]int, bool)) ([]int, api.Errno) {
	t, q, e := openFor(c, l)
	if e != api.OK {
		return nil, e
	}
	times, is := of(t, q)
	if !is {
		return nil, api.ErrNone
	}
	return times, api.OK
}

// First returns the least times of a sequence.
func First(c api.Case, l []api.Read) ([]int, api.Errno) { return end(c, l, trial.first) }

// Last returns the greatest times of a sequence.
func Last(c api.Case, l []api.Read) ([]int, api.Errno) { return end(c, l, trial.last) }
