package custody_test

import (
	"slices"
	"testing"

	"patrol/api"
	"patrol/custody"
)

// fits checks the results of all functions of uses that do, or do not, fit together.
func fits(t *testing.T, c api.Custody, l []api.Use, want bool) {
	t.Helper()
	is, e := custody.Fits(c, l)
	if is != want || e != api.OK {
		t.Error("Fits", c, l, is, e)
	}
	p, e := custody.Prove(c, l)
	if want && (!isProof(c, l, p) || e != api.OK) || !want && (len(p) > 0 || e != api.ErrNone) {
		t.Error("Prove", c, l, p, e)
	}
	if e := custody.CheckProof(c, l, p); want && e != api.OK {
		t.Error("CheckProof", c, l, p, e)
	}
	core, e := custody.Core(c, l)
	if want != (e == api.ErrNone) || want && len(core) > 0 || !want && e != api.OK {
		t.Error("Core", c, l, core, e)
	}
}

// isProof is the definition of what Prove returns.
func isProof(c api.Custody, l []api.Use, p [][]api.Move) bool {
	for k, key := range c.Keys {
		if len(p) != len(c.Keys) || !isHistory(c, key, p[k]) || !allFit(c, key, p[k], l) {
			return false
		}
	}
	return len(p) == len(c.Keys)
}

func TestP6_10(t *testing.T) {
	c := exampleBook()
	fits(t, c, nil, true)
	fits(t, c, uses(use(7, 1, 599), use(7, 2, 600)), true)
	fits(t, c, uses(use(7, 2, 600), use(7, 1, 599)), true)
	fits(t, c, uses(use(7, 1, 600)), false)
	fits(t, c, uses(use(7, 1, 100)), true)
	fits(t, c, uses(use(7, 1, 99)), false)
	fits(t, c, uses(use(7, 1, 500), use(7, 2, 500)), false)  // only one of them can hold it, and 2 has no copy while 1 does
	fits(t, c, uses(use(7, 1, 500), use(7, 2, 501)), true)   // it is passed between
	fits(t, c, uses(use(7, 2, 500), use(7, 1, 501)), false)  // it does not come back
	fits(t, c, uses(use(7, 2, 2000), use(7, 2, 1000)), true) // by the copy
	fits(t, c, uses(use(7, 2, 499)), false)                  // not on duty
	fits(t, c, uses(use(7, 1, 1001)), false)
	fits(t, c, slices.Repeat(uses(use(7, 1, 500)), api.MaxUses), true)
	fits(t, brokenBook(), nil, false)
	fits(t, api.Custody{}, nil, true)
	// A copy and the key can be in use at once; and a key that is not consistent spoils uses of others.
	c.People[0].Duty[0].Hi = 5000
	c.Entries = append(c.Entries, pass(5, 7, 0, 1, 950, 960))
	fits(t, c, uses(use(7, 2, 970), use(7, 1, 970)), true)
	fits(t, c, uses(use(7, 2, 970), use(7, 1, 970), use(7, 1, 949)), false)
	c.Keys = []int{7, 8}
	fits(t, c, uses(use(7, 2, 970), use(7, 1, 970)), true)
	fits(t, c, uses(use(8, 2, 970)), false)
	c.Entries = append(c.Entries, find(6, 8, 1, 0, 0))
	fits(t, c, uses(use(7, 2, 970), use(7, 1, 970)), false)
}

// TestP6_10Edges checks uses at the first and the last time.
func TestP6_10Edges(t *testing.T) {
	c := api.Custody{People: []api.Person{person(1, span(0, api.MaxTime)), person(2, span(0, api.MaxTime))}, Keys: []int{7}, Gaps: 3}
	for _, at := range []int{0, api.MaxTime} {
		fits(t, c, uses(use(7, 1, at)), true)
		fits(t, c, uses(use(7, 1, at), use(7, 2, at)), false)
	}
	fits(t, c, uses(use(7, 1, 0), use(7, 2, 1), use(7, 1, 2)), true)
	fits(t, c, uses(use(7, 1, 0), use(7, 2, 1), use(7, 1, 2), use(7, 2, 3)), false)
	fits(t, c, uses(use(7, 1, api.MaxTime-1), use(7, 2, api.MaxTime)), true)
	c.Entries = []api.Entry{copying(1, 7, 1, api.MaxTime, api.MaxTime)}
	fits(t, c, uses(use(7, 2, api.MaxTime-1), use(7, 1, api.MaxTime), use(7, 2, api.MaxTime)), true)
	fits(t, c, uses(use(7, 1, api.MaxTime-2), use(7, 2, api.MaxTime-1), use(7, 1, api.MaxTime), use(7, 2, api.MaxTime)), false)
	c.Entries = []api.Entry{pass(1, 7, 1, 2, 0, 0)}
	fits(t, c, uses(use(7, 2, 0)), true)
	fits(t, c, uses(use(7, 1, 0)), true)
	c.Gaps = 1
	fits(t, c, uses(use(7, 1, 0)), false)
	c.People[1].Duty = nil
	fits(t, c, uses(use(7, 2, 0)), false)
}

func TestP6_10CheckProof(t *testing.T) {
	c := exampleBook()
	c.Keys = []int{6, 7, 8}
	c.Entries = append(c.Entries, lose(5, 8, 0, 7, 9))
	l := uses(use(7, 2, 600), use(7, 1, 599))
	right := func() [][]api.Move { return [][]api.Move{nil, moves(1, 100, 2, 600, 3, 700, 4, 900), moves(5, 8)} }
	changed := func(f func(p [][]api.Move) [][]api.Move) [][]api.Move { return f(right()) }
	for k, x := range []struct {
		p    [][]api.Move
		want api.Errno
	}{
		{right(), api.OK},
		{changed(func(p [][]api.Move) [][]api.Move { p[1][0].Time = 200; p[2][0].Time = 7; return p }), api.OK},
		{changed(func(p [][]api.Move) [][]api.Move { p[1][1].Time = 599; return p }), api.ErrProof},
		{changed(func(p [][]api.Move) [][]api.Move { p[1][1].Time = 601; return p }), api.ErrProof},
		{changed(func(p [][]api.Move) [][]api.Move { p[2][0].Time = 6; return p }), api.ErrProof},
		{changed(func(p [][]api.Move) [][]api.Move { p[2] = nil; return p }), api.ErrProof},
		{changed(func(p [][]api.Move) [][]api.Move { p[0] = p[2]; return p }), api.ErrProof},
		{changed(func(p [][]api.Move) [][]api.Move { p[0] = []api.Move{unrecorded(1, 0)}; return p }), api.ErrProof},
		{changed(func(p [][]api.Move) [][]api.Move { return p[:2] }), api.ErrProof},
		{changed(func(p [][]api.Move) [][]api.Move { return p[1:] }), api.ErrProof},
		{changed(func(p [][]api.Move) [][]api.Move { return append(p, nil) }), api.ErrProof},
		{nil, api.ErrProof},
		{changed(func(p [][]api.Move) [][]api.Move { p[0] = make([]api.Move, 20); return p }), api.ErrProof},
		{changed(func(p [][]api.Move) [][]api.Move { p[0] = make([]api.Move, 21); return p }), api.ErrLimit},
		{changed(func(p [][]api.Move) [][]api.Move { p[0], p[2] = moves(5, 8), make([]api.Move, 21); return p }), api.ErrLimit},
		{changed(func(p [][]api.Move) [][]api.Move { return append(p, make([]api.Move, 21)) }), api.ErrLimit},
		{[][]api.Move{make([]api.Move, 21)}, api.ErrLimit},
	} {
		if e := custody.CheckProof(c, l, x.p); e != x.want {
			t.Error("CheckProof", k, e)
		}
	}
	if e := custody.CheckProof(api.Custody{}, nil, nil); e != api.OK {
		t.Error("CheckProof of nothing", e)
	}
	// Who is not on duty has not used the key, even if it was in their hands.
	c.People[0].Duty = spans(span(0, 598), span(600, 900))
	if e := custody.CheckProof(c, l, right()); e != api.ErrProof {
		t.Error("CheckProof of one who is not on duty", e)
	}
}

// TestP6_10Errors checks the errors of uses, and their order.
func TestP6_10Errors(t *testing.T) {
	many := slices.Repeat(uses(use(7, 1, 300)), api.MaxUses)
	call := func(what string, l []api.Use, e api.Errno, names ...string) {
		t.Helper()
		for _, c := range []api.Custody{exampleBook(), brokenBook()} {
			x := wrongArgs()
			x.uses = l
			allFail(t, what, calls(c, x), e, names...)
		}
	}
	call("too many", append(many, use(7, 1, 300)), api.ErrLimit, ofUses...)
	call("too many, and a bad one", append(many, api.Use{}), api.ErrLimit, ofUses...)
	for _, u := range uses(use(0, 1, 300), use(8, 1, 300), use(-7, 1, 300), use(minInt, 1, 300), use(7, 1, -1), use(7, 1, api.MaxTime+1), use(7, 1, minInt), use(7, 1, maxInt)) {
		call("a bad use", uses(u), api.ErrArg, ofUses...)
		call("a bad use", append(many[1:len(many):len(many)], u), api.ErrArg, ofUses...)
		call("a bad use", uses(u, use(7, 1, 600)), api.ErrArg, ofUses...)
	}
	for _, who := range []int{0, -1, 3, 7, minInt, maxInt} {
		call("a use by nobody", uses(use(7, 1, 300), use(7, who, 300)), api.ErrArg, "Fits", "Prove", "CheckProof", "Core")
	}
	allFail(t, "a clash", calls(brokenBook(), rightArgs()), api.ErrNone, "Prove")
	allFail(t, "a clash", calls(brokenBook(), rightArgs()), api.ErrProof, "CheckProof")
	allFail(t, "uses that fit", calls(exampleBook(), rightArgs()), api.ErrNone, "Core")
}

// TestP6_10Small compares with all histories.
func TestP6_10Small(t *testing.T) {
	r := chance(10)
	fit := map[bool]int{}
	for k := range 1500 {
		s := small(starts()[k%5], 1)
		c := r.book(s)
		lo, hi := window(s)
		for range 6 {
			var l []api.Use
			for range r.n(4) {
				l = append(l, r.use(c, s.lo, s.hi))
			}
			want := fitTogether(c, l, lo, hi)
			fits(t, c, l, want)
			fit[want && len(l) > 0]++
		}
	}
	if fit[true] < 100 || fit[false] < 100 {
		t.Error("not an even test:", fit)
	}
}

// TestP6_10Large compares with what can be at each time.
func TestP6_10Large(t *testing.T) {
	r := chance(100)
	fit := map[bool]int{}
	for k := range 1000 {
		lo := starts()[k%3]
		c := r.book(sizes{people: 4, keys: 1, entries: 5, gaps: 3, lo: lo, hi: lo + 9})
		var l []api.Use
		for range r.n(api.MaxUses + 1) {
			l = append(l, r.use(c, lo, lo+9))
			if r.n(2) == 0 { // one who holds a key for some time
				l = append(l, l[len(l)-1])
				l[len(l)-1].Time = min(l[len(l)-1].Time+1, lo+9)
			}
		}
		l = l[:min(len(l), r.from(1, api.MaxUses))]
		want := courseOf(c, c.Keys[0], max(lo-1, 0), lo+10, l).isPossible()
		fits(t, c, l, want)
		fit[want]++
	}
	if fit[true] < 50 || fit[false] < 50 {
		t.Error("not an even test:", fit)
	}
}

func TestP6_11(t *testing.T) {
	core := func(c api.Custody, l []api.Use, want ...int) {
		t.Helper()
		got, e := custody.Core(c, l)
		same(t, "Core", got, want, e)
	}
	c := exampleBook()
	core(c, uses(use(7, 1, 600)), 0)
	core(c, uses(use(7, 1, 300), use(7, 1, 600), use(7, 2, 700)), 1)
	core(c, uses(use(7, 1, 300), use(7, 2, 500), use(7, 2, 650), use(7, 1, 550)), 1, 3)
	// From the last one to the first one: of several, the first ones are left.
	core(c, uses(use(7, 1, 600), use(7, 1, 601), use(7, 1, 602)), 0)
	core(c, uses(use(7, 2, 500), use(7, 1, 501), use(7, 1, 502), use(7, 2, 501)), 0, 1)
	core(c, uses(use(7, 1, 500), use(7, 1, 500), use(7, 2, 500), use(7, 2, 500)), 0, 2)
	// All of three are needed.
	free := api.Custody{People: []api.Person{person(1, span(0, 99)), person(2, span(0, 99)), person(3, span(0, 99))}, Keys: []int{7}, Gaps: 2}
	core(free, uses(use(7, 3, 5), use(7, 1, 1), use(7, 2, 3)), 0, 1, 2)
	core(free, uses(use(7, 3, 5), use(7, 1, 1), use(7, 1, 2), use(7, 2, 3), use(7, 1, 0)), 0, 1, 3)
	core(free, uses(use(7, 1, 1), use(7, 2, 3), use(7, 3, 5), use(7, 1, 7)), 0, 1, 2)
	core(brokenBook(), nil)
	core(brokenBook(), uses(use(7, 1, 300), use(7, 1, 600)))
	broken := brokenBook()
	broken.Keys = []int{7, 8}
	core(broken, uses(use(8, 1, 300)))
	allFail(t, "no uses", calls(c, args{}), api.ErrNone, "Core")
}

// coreOf is the definition of Core.
func coreOf(c api.Custody, l []api.Use, lo, hi int) []int {
	out := map[int]bool{}
	without := func(k int) []api.Use {
		var rest []api.Use
		for n, u := range l {
			if n != k && !out[n] {
				rest = append(rest, u)
			}
		}
		return rest
	}
	for k := len(l) - 1; k >= 0; k-- {
		out[k] = !fitTogether(c, without(k), lo, hi)
	}
	var left []int
	for k := range l {
		if !out[k] {
			left = append(left, k)
		}
	}
	return left
}

// TestP6_11Small compares Core and Men with all histories.
func TestP6_11Small(t *testing.T) {
	r := chance(11)
	lengths := map[int]int{}
	for k := range 2000 {
		s := small(starts()[k%5], 1)
		c := r.book(s)
		lo, hi := window(s)
		for range 4 {
			var l []api.Use
			for range r.n(5) {
				l = append(l, r.use(c, s.lo, s.hi))
			}
			if !fitTogether(c, l, lo, hi) {
				want := coreOf(c, l, lo, hi)
				got, e := custody.Core(c, l)
				same(t, "Core", got, want, e)
				lengths[len(want)]++
			}
			got, e := custody.Men(c, l)
			same(t, "Men", got, menOf(c, l, lo, hi), e)
		}
	}
	for n := range 3 {
		if lengths[n] < 20 {
			t.Error("not an even test:", lengths)
		}
	}
}

// menOf is the definition of Men.
func menOf(c api.Custody, l []api.Use, lo, hi int) []int {
	var ids []int
	for _, p := range c.People {
		theirs := slices.Clone(l)
		for k := range theirs {
			theirs[k].Who = p.ID
		}
		if fitTogether(c, theirs, lo, hi) {
			ids = append(ids, p.ID)
		}
	}
	return ids
}

func TestP6_12(t *testing.T) {
	men := func(c api.Custody, l []api.Use, want ...int) {
		t.Helper()
		got, e := custody.Men(c, l)
		same(t, "Men", got, want, e)
	}
	c := exampleBook()
	men(c, uses(use(7, 1, 550), use(7, 1, 950)), 2)
	men(c, uses(use(7, 1, 550)), 1, 2)
	men(c, uses(use(7, 1, 300)), 1)
	men(c, uses(use(7, 1, 300), use(7, 1, 950)))
	men(c, nil, 1, 2)
	for _, who := range []int{0, -1, 3, 7, minInt, maxInt, api.Board} { // whatever its Who is
		men(c, uses(use(7, who, 550)), 1, 2)
	}
	men(brokenBook(), nil)
	men(brokenBook(), uses(use(7, 1, 300)))
	men(api.Custody{}, nil)
	men(api.Custody{Keys: []int{7}}, uses(use(7, 1, 300)))
	// Uses of several keys.
	c.Keys = []int{7, 8}
	c.Entries = append(c.Entries, pass(5, 8, 0, 2, 0, 700), pass(6, 8, 2, 1, 710, 720))
	men(c, uses(use(7, 0, 550), use(8, 0, 650)), 2)
	men(c, uses(use(7, 0, 550), use(8, 0, 750)), 1)
	men(c, uses(use(7, 0, 300), use(8, 0, 650)))
}
