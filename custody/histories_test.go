package custody_test

import (
	"slices"
	"testing"

	"patrol/api"
	"patrol/custody"
)

// small bounds books of which all histories can be gone through.
func small(lo, gaps int) sizes {
	return sizes{people: 2, keys: 2, entries: 3, gaps: gaps, lo: lo, hi: lo + 3}
}

// window returns the times of which the moves of small books can be thought to be, behind and before which nothing differs.
func window(s sizes) (int, int) { return max(s.lo-1, 0), min(s.hi+1, api.MaxTime) }

// starts are times at which small books begin.
func starts() []int { return []int{0, 1, 1000, api.MaxTime - 4, api.MaxTime - 3} }

func TestP6_4(t *testing.T) {
	loosely := with(func(c *api.Custody) { c.Gaps = 2 })
	lost := api.Custody{People: []api.Person{person(1), person(2)}, Keys: []int{7, 8}, Gaps: 1, Entries: []api.Entry{lose(1, 7, 0, 5, 10), find(2, 7, 1, 5, 10), pass(3, 8, 0, 1, 0, 9)}}
	for k, x := range []struct {
		c    api.Custody
		l    []api.Move
		want api.Errno
	}{
		{exampleBook(), moves(1, 100, 2, 400, 3, 400, 4, 900), api.OK},
		{exampleBook(), moves(1, 200, 2, 600, 3, 700, 4, 900), api.OK},
		{exampleBook(), moves(1, 99, 2, 400, 3, 400, 4, 900), api.ErrProof},
		{exampleBook(), moves(1, 100, 2, 601, 3, 700, 4, 900), api.ErrProof},
		{exampleBook(), moves(1, 100, 3, 400, 2, 400, 4, 900), api.ErrProof},
		{exampleBook(), moves(1, 100, 2, 500, 3, 499, 4, 900), api.ErrProof},
		{exampleBook(), moves(1, 100, 2, 400, 3, 400), api.ErrProof},
		{exampleBook(), nil, api.ErrProof},
		{exampleBook(), moves(1, 100, 1, 100, 2, 400, 3, 400, 4, 900), api.ErrProof},
		{exampleBook(), moves(1, 100, 2, 400, 3, 400, 3, 400, 4, 900), api.ErrProof},
		{exampleBook(), moves(1, 100, 2, 400, 3, 400, 4, 900, 5, 900), api.ErrProof},
		{exampleBook(), moves(1, 100, 2, 400, 3, 400, 4, 900, -1, 900), api.ErrProof},
		{exampleBook(), []api.Move{{Entry: 1, To: 1, Time: 100}, {Entry: 2, Time: 400}, {Entry: 3, Time: 400}, {Entry: 4, Time: 900}}, api.ErrProof},
		{exampleBook(), append(moves(1, 100, 2, 400, 3, 400, 4, 900), unrecorded(1, 1000)), api.ErrProof},
		{loosely, append(moves(1, 100, 2, 400, 3, 400, 4, 900), unrecorded(1, 1000)), api.OK},
		{loosely, append(moves(1, 100, 2, 400, 3, 400, 4, 900), unrecorded(1, 900), unrecorded(0, 900)), api.OK},
		{loosely, append(moves(1, 100, 2, 400, 3, 400, 4, 900), unrecorded(1, api.MaxTime), unrecorded(2, api.MaxTime)), api.OK},
		{loosely, append(moves(1, 100, 2, 400, 3, 400, 4, 900), unrecorded(1, 900), unrecorded(0, 900), unrecorded(1, 900)), api.ErrProof},
		{loosely, append(moves(1, 100, 2, 400, 3, 400, 4, 900), unrecorded(0, 900)), api.ErrProof},
		{loosely, append(moves(1, 100, 2, 400, 3, 400, 4, 900), unrecorded(3, 900)), api.ErrProof},
		{loosely, append(moves(1, 100, 2, 400, 3, 400, 4, 900), unrecorded(api.Nobody, 900)), api.ErrProof},
		{loosely, append(moves(1, 100, 2, 400, 3, 400, 4, 900), unrecorded(1, 899)), api.ErrProof},
		{loosely, append(moves(1, 100, 2, 400, 3, 400, 4, 900), unrecorded(1, api.MaxTime+1)), api.ErrProof},
		{loosely, slices.Concat([]api.Move{unrecorded(1, -1), unrecorded(0, 0)}, moves(1, 100, 2, 400, 3, 400, 4, 900)), api.ErrProof},
		{loosely, slices.Concat([]api.Move{unrecorded(1, 0), unrecorded(0, 100)}, moves(1, 100, 2, 400, 3, 400, 4, 900)), api.OK},
		{lost, moves(1, 5, 2, 5), api.OK},
		{lost, moves(1, 6, 2, 10), api.OK},
		{lost, moves(2, 5, 1, 5), api.ErrProof},
		{lost, moves(1, 5), api.ErrProof},
		{lost, []api.Move{{Entry: 1, Time: 5}, unrecorded(0, 5), {Entry: 2, Time: 5}}, api.ErrProof},
		{lost, []api.Move{{Entry: 1, Time: 5}, {Entry: 2, Time: 5}, unrecorded(2, 5)}, api.OK},
		{lost, []api.Move{{Entry: 1, To: -1, Time: 5}, {Entry: 2, Time: 5}}, api.ErrProof},
		{lost, []api.Move{{Entry: 1, Time: 5}, {Entry: 2, To: 1, Time: 5}}, api.ErrProof},
		{lost, moves(1, 5, 2, 5, 3, 9), api.ErrProof}, // an entry of another key
	} {
		if e := custody.CheckHistory(x.c, 7, x.l); e != x.want {
			t.Error("CheckHistory", k, e)
		}
	}
	if e := custody.CheckHistory(lost, 8, moves(3, 9)); e != api.OK {
		t.Error("CheckHistory of the other key", e)
	}
}

func TestP6_4Limit(t *testing.T) {
	right := moves(1, 100, 2, 400, 3, 400, 4, 900)
	for _, x := range []struct {
		n    int
		want api.Errno
	}{{0, api.OK}, {1, api.ErrProof}, {16, api.ErrProof}, {17, api.ErrLimit}, {1000, api.ErrLimit}} {
		l := append(slices.Clone(right), make([]api.Move, x.n)...)
		if e := custody.CheckHistory(exampleBook(), 7, l); e != x.want {
			t.Error("CheckHistory", x, e)
		}
		if n, l, e := custody.Held(exampleBook(), 7, l, 500); x.want != api.OK && (n != 0 || len(l) > 0 || e != x.want) {
			t.Error("Held", n, l, e)
		}
	}
}

// TestP6_4Small compares with the definition: of lists that are histories, and of such lists changed a little.
func TestP6_4Small(t *testing.T) {
	r := chance(4)
	verdicts := map[bool]int{}
	for k := range 300 {
		s := small(starts()[k%5], 2)
		c := r.book(s)
		for _, key := range c.Keys {
			lo, hi := window(s)
			n := 0
			for l := range histories(c, key, lo, hi) {
				n++
				if n > 30 {
					break
				}
				for range 5 {
					is := isHistory(c, key, l)
					verdicts[is]++
					if e := custody.CheckHistory(c, key, l); is != (e == api.OK) || !is && e != api.ErrProof {
						t.Error("CheckHistory", c, key, l, e)
					}
					l = r.changed(c, l, lo, hi)
				}
			}
			l, e := custody.History(c, key)
			if n > 0 && (!isHistory(c, key, l) || e != api.OK) || n == 0 && (len(l) > 0 || e != api.ErrClash) {
				t.Error("History", c, key, l, e, n)
			}
		}
	}
	if verdicts[true] < 1000 || verdicts[false] < 1000 {
		t.Error("not an even test:", verdicts)
	}
}

// changed returns a list of moves with one change.
func (c *chance) changed(b api.Custody, l []api.Move, lo, hi int) []api.Move {
	l = slices.Clone(l)
	m := unrecorded(c.pick(places(b)...), c.from(lo, hi))
	if len(b.Entries) > 0 && c.n(2) == 0 {
		m = api.Move{Entry: b.Entries[c.n(len(b.Entries))].ID, Time: c.from(lo, hi)}
	}
	if len(l) == 0 || c.n(4) == 0 {
		return slices.Insert(l, c.n(len(l)+1), m)
	}
	k := c.n(len(l))
	switch c.n(6) {
	case 0:
		return slices.Delete(l, k, k+1)
	case 1:
		l[k] = m
	case 2:
		l[k].To = c.pick(api.Nobody, api.Board, m.To)
	case 3:
		n := c.n(len(l))
		l[k], l[n] = l[n], l[k]
	default:
		l[k].Time += c.pick(-1, 1)
	}
	return l
}

func TestP6_4Clash(t *testing.T) {
	if l, e := custody.History(brokenBook(), 7); len(l) > 0 || e != api.ErrClash {
		t.Error("History", l, e)
	}
	for _, c := range []api.Custody{{Keys: []int{7}}, {Keys: []int{7, 8}, Entries: []api.Entry{find(1, 8, 0, 0, 0)}}} {
		if l, e := custody.History(c, 7); len(l) > 0 || e != api.OK {
			t.Error("History of a key without entries", l, e)
		}
	}
	loose := brokenBook()
	loose.Gaps = 1
	if l, e := custody.History(loose, 7); e != api.ErrClash {
		t.Error("History", l, e)
	}
	loose.Gaps = 2
	if l, e := custody.History(loose, 7); !isHistory(loose, 7, l) || e != api.OK {
		t.Error("History", l, e)
	}
}

func TestP6_5(t *testing.T) {
	held := func(c api.Custody, key int, l []api.Move, at, place int, copies ...int) {
		t.Helper()
		n, ids, e := custody.Held(c, key, l, at)
		same(t, "the copies of Held", ids, copies, e)
		if n != place {
			t.Error("Held", at, n, place)
		}
	}
	l := moves(1, 100, 2, 400, 3, 450, 4, 900)
	for _, x := range []struct{ t, place int }{{0, 0}, {99, 0}, {100, 1}, {399, 1}, {400, 2}, {449, 2}} {
		held(exampleBook(), 7, l, x.t, x.place)
	}
	for _, x := range []struct{ t, place int }{{450, 2}, {899, 2}, {900, 0}, {901, 0}, {api.MaxTime, 0}} {
		held(exampleBook(), 7, l, x.t, x.place, 2)
	}
	// The copies are told in the order of the IDs, each one once, also of a key that is lost.
	c := api.Custody{People: []api.Person{person(1), person(2)}, Keys: []int{7}, Gaps: 3, Entries: []api.Entry{copying(1, 7, 2, 5, 9), copying(2, 7, 1, 5, 9), copying(3, 7, 2, 5, 9), lose(4, 7, 1, 0, 9)}}
	l = []api.Move{unrecorded(2, 5), {Entry: 1, Time: 5}, {Entry: 3, Time: 6}, unrecorded(1, 6), {Entry: 2, Time: 7}, {Entry: 4, Time: 8}}
	held(c, 7, l, 4, 0)
	held(c, 7, l, 5, 2, 2)
	held(c, 7, l, 6, 1, 2)
	held(c, 7, l, 7, 1, 1, 2)
	held(c, 7, l, 8, api.Nobody, 1, 2)
	held(c, 7, l, api.MaxTime, api.Nobody, 1, 2)
	held(api.Custody{Keys: []int{7}}, 7, nil, 0, 0)
}

func TestP6_5Errors(t *testing.T) {
	right := moves(1, 100, 2, 400, 3, 450, 4, 900)
	for _, at := range []int{-1, api.MaxTime + 1, minInt, maxInt} {
		for _, l := range [][]api.Move{right, nil, make([]api.Move, 21)} {
			if n, ids, e := custody.Held(exampleBook(), 7, l, at); n != 0 || len(ids) > 0 || e != api.ErrArg {
				t.Error("Held", at, n, ids, e)
			}
		}
	}
	for _, at := range []int{0, 500, api.MaxTime} {
		if n, ids, e := custody.Held(exampleBook(), 7, right[:3], at); n != 0 || len(ids) > 0 || e != api.ErrProof {
			t.Error("Held", at, n, ids, e)
		}
		if n, ids, e := custody.Held(exampleBook(), 7, make([]api.Move, 21), at); n != 0 || len(ids) > 0 || e != api.ErrLimit {
			t.Error("Held", at, n, ids, e)
		}
	}
}

// TestP6_5Small compares with the definition.
func TestP6_5Small(t *testing.T) {
	r := chance(5)
	for k := range 200 {
		s := small(starts()[k%5], 2)
		c := r.book(s)
		lo, hi := window(s)
		n := 0
		for l := range histories(c, c.Keys[0], lo, hi) {
			n++
			if n > 40 {
				break
			}
			for at := max(lo-1, 0); at <= hi; at++ {
				place, copiers := heldBehind(c, c.Keys[0], l, at)
				got, ids, e := custody.Held(c, c.Keys[0], l, at)
				same(t, "the copies of Held", ids, copiers, e)
				if got != place {
					t.Error("Held", c, l, at, got, place)
				}
			}
		}
	}
}
