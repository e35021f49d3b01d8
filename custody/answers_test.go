package custody_test

import (
	"maps"
	"slices"
	"testing"

	"patrol/api"
	"patrol/custody"
)

// known is what all histories of a key tell.
type known struct {
	places, copiers, hands map[int]map[int]bool // by the time
	when                   map[int]api.Span     // by the entry
	n, gaps                int                  // how many there are, and the least number of moves that were not recorded
}

// put adds a number to the set of a time.
func put(m map[int]map[int]bool, t, n int) {
	if m[t] == nil {
		m[t] = map[int]bool{}
	}
	m[t][n] = true
}

// knownOf goes through all histories of a key, with moves from lo to hi.
func knownOf(c api.Custody, key, lo, hi int) known {
	x := known{map[int]map[int]bool{}, map[int]map[int]bool{}, map[int]map[int]bool{}, map[int]api.Span{}, 0, maxInt}
	for l := range histories(c, key, lo, hi) {
		x.n++
		x.gaps = min(x.gaps, len(l)-countOf(c, key))
		for t := lo; t <= hi; t++ {
			place, copiers := heldBehind(c, key, l, t)
			put(x.places, t, place)
			for _, id := range copiers {
				put(x.copiers, t, id)
			}
			for _, id := range append(copiers, place) {
				if isOnDuty(c, id, t) {
					put(x.hands, t, id)
				}
			}
		}
		for _, m := range l {
			s, is := x.when[m.Entry]
			if !is {
				s = span(m.Time, m.Time)
			}
			x.when[m.Entry] = span(min(s.Lo, m.Time), max(s.Hi, m.Time))
		}
	}
	return x
}

func sorted(m map[int]bool) []int { return slices.Sorted(maps.Keys(m)) }

// TestP6_6Small compares P6.6 to P6.9 with what all histories tell.
func TestP6_6Small(t *testing.T) {
	r := chance(6)
	consistent := map[bool]int{}
	for k := range 1500 {
		s := small(starts()[k%5], 1)
		c := r.book(s)
		lo, hi := window(s)
		for _, key := range c.Keys {
			x := knownOf(c, key, lo, hi)
			consistent[x.n > 0]++
			if x.n == 0 {
				allFail(t, "clash", calls(c, args{key: key, t: s.lo, s: span(lo, hi)}), api.ErrClash, "History", "Holders", "Copiers", "Hands")
				continue
			}
			for at := lo; at <= hi; at++ {
				l, e := custody.Holders(c, key, at)
				same(t, "Holders", l, sorted(x.places[at]), e)
				l, e = custody.Copiers(c, key, at)
				same(t, "Copiers", l, sorted(x.copiers[at]), e)
				hands := map[int]bool{}
				for end := at; end <= hi; end++ {
					maps.Copy(hands, x.hands[end])
					l, e = custody.Hands(c, key, span(at, end))
					same(t, "Hands", l, sorted(hands), e)
				}
			}
		}
	}
	if consistent[true] < 100 || consistent[false] < 100 {
		t.Error("not an even test:", consistent)
	}
}

// TestP6_6Large compares with what can be at each time, of books of many entries.
func TestP6_6Large(t *testing.T) {
	r := chance(66)
	consistent := map[bool]int{}
	for k := range 300 {
		lo := starts()[k%3]
		c := r.book(sizes{people: 5, keys: 1, entries: 5, gaps: 2, lo: lo, hi: lo + 7})
		if k%2 == 0 {
			c, _ = r.trueBook(4, 1, 6, lo, lo+9)
			c.Gaps = r.from(0, api.MaxGaps)
		}
		key := c.Keys[0]
		x := courseOf(c, key, max(lo-1, 0), lo+10, nil)
		consistent[x.isPossible()]++
		if !x.isPossible() {
			allFail(t, "clash", calls(c, args{key: key, t: lo, s: span(lo, lo+10)}), api.ErrClash, "History", "Holders", "Copiers", "Hands")
			continue
		}
		for at := x.lo; at <= x.hi; at++ {
			l, e := custody.Holders(c, key, at)
			same(t, "Holders", l, x.holders(at), e)
			l, e = custody.Copiers(c, key, at)
			same(t, "Copiers", l, x.copiers(at), e)
			s := r.span(at, x.hi)
			l, e = custody.Hands(c, key, s)
			same(t, "Hands", l, x.hands(s), e)
		}
	}
	if consistent[true] < 100 || consistent[false] < 50 {
		t.Error("not an even test:", consistent)
	}
}

func TestP6_6(t *testing.T) {
	lost := api.Custody{People: []api.Person{person(3), person(9)}, Keys: []int{7}, Entries: []api.Entry{pass(1, 7, 0, 9, 10, 20), copying(2, 7, 9, 0, 30), lose(3, 7, 9, 20, 30), find(4, 7, 3, 40, 50)}}
	for _, x := range []struct {
		t               int
		places, copiers []int
	}{
		{0, []int{0}, nil}, {9, []int{0}, nil}, {10, []int{0, 9}, []int{9}}, {19, []int{0, 9}, []int{9}}, {20, []int{-1, 9}, []int{9}}, {29, []int{-1, 9}, []int{9}}, {30, []int{-1}, []int{9}}, {39, []int{-1}, []int{9}}, {40, []int{-1, 3}, []int{9}}, {49, []int{-1, 3}, []int{9}}, {50, []int{3}, []int{9}}, {api.MaxTime, []int{3}, []int{9}},
	} {
		l, e := custody.Holders(lost, 7, x.t)
		same(t, "Holders", l, x.places, e)
		l, e = custody.Copiers(lost, 7, x.t)
		same(t, "Copiers", l, x.copiers, e)
	}
	// A key without entries hangs on the board, or is wherever it was passed to without a record.
	none := api.Custody{People: []api.Person{person(3), person(9)}, Keys: []int{7}}
	for _, at := range []int{0, 5, api.MaxTime} {
		l, e := custody.Holders(none, 7, at)
		same(t, "Holders without gaps", l, []int{0}, e)
		none.Gaps = 1
		l, e = custody.Holders(none, 7, at)
		same(t, "Holders with a gap", l, []int{0, 3, 9}, e)
		l, e = custody.Copiers(none, 7, at)
		same(t, "Copiers", l, nil, e)
		none.Gaps = 0
	}
	// Behind a time means behind all moves at it: a key that must pass on in the same second is nowhere between.
	through := api.Custody{People: []api.Person{person(3), person(9)}, Keys: []int{7}, Entries: []api.Entry{pass(1, 7, 0, 3, 10, 10), pass(2, 7, 3, 9, 10, 10)}}
	for at, want := range map[int][]int{9: {0}, 10: {9}, 11: {9}} {
		l, e := custody.Holders(through, 7, at)
		same(t, "Holders", l, want, e)
	}
}

func TestP6_6Errors(t *testing.T) {
	for _, at := range []int{-1, api.MaxTime + 1, minInt, maxInt} {
		for _, c := range []api.Custody{exampleBook(), brokenBook()} {
			allFail(t, "not a time", calls(c, args{key: 7, t: at}), api.ErrArg, "Holders", "Copiers")
		}
	}
	for _, at := range []int{0, 500, api.MaxTime} {
		allFail(t, "a clash", calls(brokenBook(), args{key: 7, t: at}), api.ErrClash, "Holders", "Copiers")
	}
	// Another key that is not consistent does not matter.
	c := brokenBook()
	c.Keys = []int{7, 8}
	l, e := custody.Holders(c, 8, 0)
	same(t, "Holders of the other key", l, []int{0}, e)
}

func TestP6_7(t *testing.T) {
	hands := func(c api.Custody, s api.Span, want ...int) {
		t.Helper()
		l, e := custody.Hands(c, 7, s)
		same(t, "Hands", l, want, e)
	}
	c := exampleBook()
	hands(c, span(0, 99))
	hands(c, span(0, 100), 1)
	hands(c, span(599, 599), 1, 2)
	hands(c, span(600, 600), 2)
	hands(c, span(0, 499), 1)
	hands(c, span(0, 500), 1, 2)
	hands(c, span(901, 2000), 2)
	hands(c, span(2000, 2000), 2)
	hands(c, span(2001, api.MaxTime))
	hands(c, span(0, api.MaxTime), 1, 2)
	// Who is on duty in parts of the span, of which only a later one will do.
	c.People[1].Duty = spans(span(0, 50), span(60, 399), span(700, 700), span(800, 900))
	hands(c, span(0, 699), 1)
	hands(c, span(0, 700), 1, 2)
	hands(c, span(701, 799))
	hands(c, span(701, 800), 2)
}

// TestP6_7Dense compares with what can be at each time, of books of which many moves are in the same seconds.
func TestP6_7Dense(t *testing.T) {
	r := chance(77)
	consistent := map[bool]int{}
	for range 4000 {
		c, _ := r.trueBook(r.from(1, 3), 1, 7, 0, r.from(1, 3))
		for k, x := range c.Entries {
			c.Entries[k].At = r.span(x.At.Lo, x.At.Hi)
		}
		c.Gaps = r.from(0, 2)
		x := courseOf(c, 1, 0, 4, nil)
		consistent[x.isPossible()]++
		if s := r.span(0, 4); x.isPossible() {
			l, e := custody.Hands(c, 1, s)
			same(t, "Hands", l, x.hands(s), e)
		}
	}
	if consistent[true] < 500 || consistent[false] < 500 {
		t.Error("not an even test:", consistent)
	}
}

// TestP6_7Order checks that the time at which a key was in hand can lie before or between other moves, whatever these are.
func TestP6_7Order(t *testing.T) {
	c := api.Custody{People: []api.Person{person(1, span(0, 20))}, Keys: []int{7}, Entries: []api.Entry{pass(1, 7, 0, 1, 5, 6), lose(2, 7, 1, 10, 10), find(3, 7, 1, 10, 10), pass(4, 7, 1, 0, 10, 10)}}
	for _, x := range []struct {
		s    api.Span
		want []int
	}{{span(0, 20), []int{1}}, {span(9, 20), []int{1}}, {span(10, 20), nil}, {span(0, 4), nil}, {span(5, 5), []int{1}}} {
		l, e := custody.Hands(c, 7, x.s)
		same(t, "Hands", l, x.want, e)
	}
}

func TestP6_7Errors(t *testing.T) {
	for _, s := range []api.Span{span(1, 0), span(-1, 0), span(0, api.MaxTime+1), span(minInt, maxInt), span(maxInt, minInt), span(api.MaxTime+1, api.MaxTime+1), span(-1, -1)} {
		for _, c := range []api.Custody{exampleBook(), brokenBook()} {
			allFail(t, "not a span of times", calls(c, args{key: 7, s: s}), api.ErrArg, "Hands")
		}
	}
	for _, s := range []api.Span{span(0, 0), span(0, api.MaxTime), span(3, 5)} {
		allFail(t, "a clash", calls(brokenBook(), args{key: 7, s: s}), api.ErrClash, "Hands")
	}
}

func TestP6_8(t *testing.T) {
	when := func(c api.Custody, id, lo, hi int) {
		t.Helper()
		if s, e := custody.When(c, id); s != span(lo, hi) || e != api.OK {
			t.Error("When", id, s, e)
		}
	}
	c := exampleBook()
	when(c, 1, 100, 200)
	when(c, 2, 400, 600)
	when(c, 3, 400, 700)
	when(c, 4, 900, 900)
	// All of them at once.
	c = api.Custody{People: []api.Person{person(1), person(2)}, Keys: []int{7, 9}, Entries: []api.Entry{pass(5, 7, 0, 1, 0, 50), pass(6, 7, 1, 2, 20, 30), pass(7, 7, 2, 0, 0, 40)}}
	when(c, 5, 0, 30)
	when(c, 6, 20, 30)
	when(c, 7, 20, 40)
	// The times of an entry can have a gap: the key passes twice from the board to a man, and back, and which is which is open.
	c.Entries = []api.Entry{pass(1, 7, 0, 1, 0, 100), pass(2, 7, 1, 0, 10, 10), pass(3, 7, 0, 1, 0, 100), pass(4, 7, 1, 0, 90, 90)}
	when(c, 1, 0, 90)
	when(c, 3, 0, 90)
	c.Entries = []api.Entry{pass(1, 7, 0, 1, 0, api.MaxTime)}
	when(c, 1, 0, api.MaxTime)
	c.Entries = []api.Entry{pass(1, 7, 0, 1, 0, 0), pass(2, 7, 1, 0, 0, 0)}
	when(c, 2, 0, 0)
	c.Entries = []api.Entry{pass(1, 7, 2, 1, 5, 5), lose(2, 9, 2, 0, 0)}
	c.Gaps = 1
	when(c, 1, 5, 5)
	when(c, 2, 0, 0)
	c.Gaps = 0
	for _, id := range []int{0, -1, 3, 7, minInt, maxInt} {
		allFail(t, "no such entry", calls(c, args{id: id}), api.ErrNone, "When")
	}
	for _, id := range []int{1, 2} {
		allFail(t, "a clash", calls(c, args{id: id}), api.ErrClash, "When")
	}
	// The key of the entry must be consistent, another one need not.
	c.Entries[0] = pass(1, 7, 0, 1, 5, 6)
	when(c, 1, 5, 6)
	allFail(t, "a clash", calls(c, args{id: 2}), api.ErrClash, "When")
}

// TestP6_8Small compares P6.8 and P6.9 with what all histories tell.
func TestP6_8Small(t *testing.T) {
	r := chance(8)
	needed := map[int]int{}
	for k := range 1500 {
		s := small(starts()[k%5], 1)
		s.keys = 1
		c := r.book(s)
		key := c.Keys[0]
		lo, hi := window(s)
		x := knownOf(c, key, lo, hi)
		for _, entry := range c.Entries {
			got, e := custody.When(c, entry.ID)
			if want := x.when[entry.ID]; got != want || x.n > 0 && e != api.OK || x.n == 0 && e != api.ErrClash {
				t.Error("When", c, entry, got, want, e)
			}
		}
		least := leastGaps(c, key, lo, hi)
		needed[least]++
		got, e := custody.Needed(c, key)
		if least <= api.MaxGaps && (got != least || e != api.OK) || least > api.MaxGaps && (got != 0 || e != api.ErrNone) {
			t.Error("Needed", c, got, e, least)
		}
		l, e := custody.Suspects(c, key)
		same(t, "Suspects", l, suspectsOf(c, key, lo, hi), e)
	}
	for n := range api.MaxGaps + 2 {
		if needed[n] < 2 {
			t.Error("not an even test:", needed)
		}
	}
}

// leastGaps is the definition of Needed; it is greater than api.MaxGaps if there is none.
func leastGaps(c api.Custody, key, lo, hi int) int {
	for c.Gaps = 0; c.Gaps <= api.MaxGaps && !isConsistent(c, key, lo, hi); c.Gaps++ {
	}
	return c.Gaps
}

// suspectsOf is the definition of Suspects.
func suspectsOf(c api.Custody, key, lo, hi int) []int {
	var ids []int
	if isConsistent(c, key, lo, hi) {
		return nil
	}
	for _, x := range entriesOf(c, key) {
		less := c
		less.Entries = slices.DeleteFunc(slices.Clone(c.Entries), func(y api.Entry) bool { return y.ID == x.ID })
		if isConsistent(less, key, lo, hi) {
			ids = append(ids, x.ID)
		}
	}
	slices.Sort(ids)
	return ids
}

func TestP6_9(t *testing.T) {
	needed := func(c api.Custody, key, want int, e api.Errno) {
		t.Helper()
		if n, f := custody.Needed(c, key); n != want || f != e {
			t.Error("Needed", n, f, want, e)
		}
	}
	suspects := func(c api.Custody, want ...int) {
		t.Helper()
		l, e := custody.Suspects(c, 7)
		same(t, "Suspects", l, want, e)
	}
	needed(exampleBook(), 7, 0, api.OK)
	needed(brokenBook(), 7, 2, api.OK)
	suspects(exampleBook())
	suspects(brokenBook(), 5)
	// Gaps of the book does not matter for Needed, but for Suspects.
	loose := brokenBook()
	loose.Gaps = 3
	needed(loose, 7, 2, api.OK)
	suspects(loose)
	// Each one alone can be at fault, in an order that is not that of the entries.
	c := api.Custody{People: []api.Person{person(1), person(2)}, Keys: []int{7, 8}, Entries: []api.Entry{pass(9, 7, 0, 1, 0, 5), pass(4, 7, 0, 2, 0, 5), find(5, 8, 1, 0, 0)}}
	needed(c, 7, 1, api.OK)
	suspects(c, 4, 9)
	// None alone is at fault.
	c.Entries = append(c.Entries, pass(3, 7, 0, 1, 0, 5))
	needed(c, 7, 2, api.OK)
	suspects(c)
	// No gaps help a key that was found before it was lost.
	needed(c, 8, 0, api.ErrNone)
	c.Gaps = 3
	needed(c, 8, 0, api.ErrNone)
	needed(api.Custody{Keys: []int{1}}, 1, 0, api.OK)
}
