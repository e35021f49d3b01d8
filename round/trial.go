package round

import (
	"iter"
	"slices"

	"patrol/api"
	"patrol/clock"
	"patrol/house"
	"patrol/order"
)

// The indices of the nodes of a record: the origin, and that of the first strike, behind which the others come.
const (
	origin      = 0
	firstStrike = 3
)

// sequence is a sequence of a case, with the rooms of its visits, and what bounds their times; tight is empty if its record is not consistent.
type sequence struct {
	reads   []api.Read
	rooms   []int
	demands []api.Demand
	tight   [][]int
}

// trial is a measured case with its sequences, and with timetables of its house.
type trial struct {
	api.Case
	sequences        []sequence
	earliest, latest timetable
}

// timetable tells a time for each room, of one who is in a room at a time.
type timetable func(room, t int) []int

// remember returns the timetable of a house that a function tells, which is asked once for each room and time.
func remember(h api.House, ask func(h api.House, room, t int) ([]int, api.Errno)) timetable {
	type moment struct{ room, time int }
	known := map[moment][]int{}
	return func(room, t int) []int {
		now := moment{room, t}
		times, is := known[now]
		if !is {
			times, _ = ask(h, room, t)
			known[now] = times
		}
		return times
	}
}

// few reports whether there are at most api.MaxReads lists that have one read of each mark, and none of them has more than api.MaxStrikes visits.
func few(all [][][]api.Read) bool {
	lists, visits := 1, 0
	for _, reads := range all {
		if len(reads) == 0 {
			return true
		}
		// Beyond this number the product could overflow; a later mark can still have no reads.
		lists = min(lists*len(reads), api.MaxReads+1)
		visits += len(reads[len(reads)-1]) // the longest read of a mark is its last one
	}
	return lists <= api.MaxReads && visits <= api.MaxStrikes
}

// lists yields the lists that have one read of each mark, in their order.
func lists(all [][][]api.Read) iter.Seq[[]api.Read] {
	return func(yield func([]api.Read) bool) {
		// Otherwise many lists could be begun, of which none would ever be whole.
		if !slices.ContainsFunc(all, func(reads [][]api.Read) bool { return len(reads) == 0 }) {
			extend(nil, all, yield)
		}
	}
}

// extend yields the lists that begin with some reads, and have one more of each of some marks; it reports whether to go on.
func extend(begun []api.Read, all [][][]api.Read, yield func([]api.Read) bool) bool {
	if len(all) == 0 {
		return yield(begun)
	}
	for _, read := range all[0] {
		if !extend(slices.Concat(begun, read), all[1:], yield) {
			return false
		}
	}
	return true
}

// breakable reports whether there are at most api.MaxBreaks ways to break one link of each demand.
func breakable(l []api.Demand) bool {
	ways := 1
	for _, d := range l {
		// Beyond this number the product could overflow; it still is 0 with a demand without links.
		ways = min(ways*len(d.Links), api.MaxBreaks+1)
	}
	return ways <= api.MaxBreaks
}

// newSequence returns a sequence of a case without its times; ErrLimit if its demands are too many.
func newSequence(c api.Case, l []api.Read) (sequence, api.Errno) {
	var rooms []int
	var names []string
	for _, x := range l {
		rooms = append(rooms, c.Stations[x.Station].Room)
		names = append(names, c.Stations[x.Station].Name)
	}
	demands, e := order.Demands(c.Order, names)
	if e != api.OK || !breakable(demands) {
		return sequence{}, api.ErrLimit
	}
	return sequence{reads: l, rooms: rooms, demands: demands}, api.OK
}

// isConsistent reports whether the record of a sequence is consistent.
func (q sequence) isConsistent() bool { return len(q.tight) > 0 }

// span returns the span of the time of a visit, by the clock alone.
func (q sequence) span(visit int) api.Span {
	return api.Span{Lo: -q.tight[firstStrike+visit][origin], Hi: q.tight[origin][firstStrike+visit]}
}

// gap returns the gap bound of two visits.
func (q sequence) gap(u, v int) int { return q.tight[firstStrike+u][firstStrike+v] }

// isLoose reports whether the time of some visit is known too badly.
func (q sequence) isLoose() bool {
	if !q.isConsistent() {
		return false
	}
	for visit := range q.reads {
		if x := q.span(visit); x.Hi-x.Lo > api.MaxLoose {
			return true
		}
	}
	return false
}

// open returns the trial of a case; the error of Check, or else ErrArg unless the other arguments are right, or else the error of Measure.
func open(c api.Case, right bool) (trial, api.Errno) {
	if e := check(c, right); e != api.OK {
		return trial{}, e
	}
	t := trial{Case: c, earliest: remember(c.House, house.Earliest), latest: remember(c.House, house.Latest)}
	var all [][][]api.Read
	for mark := range c.Marks {
		all = append(all, readsOf(c, mark))
	}
	if !few(all) {
		return trial{}, api.ErrLimit
	}
	for l := range lists(all) {
		q, e := newSequence(c, l)
		if e != api.OK {
			return trial{}, e
		}
		t.sequences = append(t.sequences, q)
	}
	for k, q := range t.sequences {
		q.tight, _ = clock.Tight(record(c, q.reads))
		if q.isLoose() {
			return trial{}, api.ErrRange
		}
		t.sequences[k] = q
	}
	return t, api.OK
}

// Measure returns whether a case is too large, or too loose, to be judged.
func Measure(c api.Case) api.Errno {
	_, e := open(c, true)
	return e
}

// Sequences returns all sequences of a case.
func Sequences(c api.Case) ([][]api.Read, api.Errno) {
	t, e := open(c, true)
	if e != api.OK {
		return nil, e
	}
	var l [][]api.Read
	for _, q := range t.sequences {
		l = append(l, q.reads)
	}
	return l, api.OK
}

// find returns the sequence that a list is; false if it is none.
func (t trial) find(l []api.Read) (sequence, bool) {
	for _, q := range t.sequences {
		if slices.Equal(q.reads, l) {
			return q, true
		}
	}
	return sequence{}, false
}

// openFor returns the trial of a case, and the sequence that a list is; ErrArg, behind the error of Measure, if it is none.
func openFor(c api.Case, l []api.Read) (trial, sequence, api.Errno) {
	t, e := open(c, true)
	if e != api.OK {
		return trial{}, sequence{}, e
	}
	q, is := t.find(l)
	if !is {
		return trial{}, sequence{}, api.ErrArg
	}
	return t, q, api.OK
}
