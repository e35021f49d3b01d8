package custody_test

import (
	"slices"
	"testing"

	"patrol/api"
	"patrol/custody"
)

// roomy returns a copy of a list with room and other elements behind its end.
func roomy[T any](l []T, behind T) []T {
	return append(slices.Clone(l), behind, behind, behind)[:len(l)]
}

// whole returns a copy of a list with what lies behind its end.
func whole[T any](l []T) []T { return slices.Clone(l[:cap(l)]) }

// overwrite changes a list, up to its capacity.
func overwrite[T any](l []T, x T) {
	l = l[:cap(l)]
	for k := range l {
		l[k] = x
	}
}

// roomyBook returns a copy of a book whose lists have other elements behind their ends, wholeBook one with these elements.
func roomyBook(c api.Custody) api.Custody {
	c.People, c.Keys, c.Entries = roomy(c.People, person(77)), roomy(c.Keys, 77), roomy(c.Entries, pass(77, 7, 7, 7, 7, 7))
	for k, p := range c.People {
		c.People[k].Duty = roomy(p.Duty, span(77, 77))
	}
	return c
}
func wholeBook(c api.Custody) api.Custody {
	c.People, c.Keys, c.Entries = whole(c.People), whole(c.Keys), whole(c.Entries)
	for k, p := range c.People {
		c.People[k].Duty = whole(p.Duty)
	}
	return c
}

// overwriteBook changes all lists of a book, from the innermost ones on.
func overwriteBook(c api.Custody) {
	for _, p := range c.People[:cap(c.People)] {
		overwrite(p.Duty, span(-7, -7))
	}
	overwrite(c.People, person(-7))
	overwrite(c.Keys, -7)
	overwrite(c.Entries, api.Entry{})
}

// memoryBook has entries and keys of which the functions have much to tell.
func memoryBook() api.Custody {
	c := exampleBook()
	c.Gaps, c.Keys = 2, []int{5, 7, 9}
	c.People[0].Duty = spans(span(0, 700), span(702, 1000))
	c.Entries = append(c.Entries, copying(8, 9, 1, 10, 20), lose(6, 5, 0, 3, 4))
	return c
}

// TestR6Arguments checks that arguments stay as they were, also behind their ends.
func TestR6Arguments(t *testing.T) {
	for _, gaps := range []int{0, 2} {
		plain := memoryBook()
		plain.Gaps = gaps
		c := roomyBook(plain)
		x := rightArgs()
		x.l, x.ids = roomy(x.l, unrecorded(7, 7)), roomy([]int{2, 9, 1, 2}, -5)
		x.uses = roomy(uses(use(7, 2, 900), use(9, 1, 30), use(7, 1, 300), use(7, 1, 550), use(7, 2, 600), use(7, 2, 550)), use(7, 7, 7))
		x.p = roomy([][]api.Move{moves(6, 3), moves(1, 100, 2, 400, 3, 400, 4, 900), {unrecorded(1, 10), {Entry: 8, Time: 10}}}, moves(7, 7))
		for k := range x.p {
			x.p[k] = roomy(x.p[k], unrecorded(7, 7))
		}
		was, wasL, wasIDs, wasUses := wholeBook(c), whole(x.l), whole(x.ids), whole(x.uses)
		var wasP [][]api.Move
		for _, l := range x.p[:cap(x.p)] {
			wasP = append(wasP, whole(l))
		}
		calls(c, x)
		custody.Check(c)
		for range 3 {
			x.uses = x.uses[:len(x.uses)-1]
			calls(c, x)
		}
		sameBook(t, "the book", wholeBook(c), was, api.OK)
		sameBook(t, "the book, to its ends", c, plain, api.OK)
		same(t, "the moves", whole(x.l), wasL, api.OK)
		same(t, "the IDs", whole(x.ids), wasIDs, api.OK)
		same(t, "the uses", whole(x.uses), wasUses, api.OK)
		for k, l := range x.p[:cap(x.p)] {
			same(t, "the proofs", whole(l), wasP[k], api.OK)
		}
	}
}

// TestR6Books checks that the books that With, Without and Parse return share nothing with their arguments, with each other, or within themselves.
func TestR6Books(t *testing.T) {
	text, _ := custody.Print(memoryBook())
	for name, make := range map[string]func(c api.Custody) (api.Custody, api.Errno){
		"With":               func(c api.Custody) (api.Custody, api.Errno) { return custody.With(c, pass(5, 7, 0, 1, 0, 0)) },
		"Without":            func(c api.Custody) (api.Custody, api.Errno) { return custody.Without(c, []int{3}) },
		"Without nothing":    func(c api.Custody) (api.Custody, api.Errno) { return custody.Without(c, nil) },
		"Without everything": func(c api.Custody) (api.Custody, api.Errno) { return custody.Without(c, []int{1, 2, 3, 4, 8, 6}) },
		"Parse":              func(api.Custody) (api.Custody, api.Errno) { return custody.Parse(text) },
	} {
		c := roomyBook(memoryBook())
		got, e := make(c)
		want := copyOf(got)
		overwriteBook(c)
		sameBook(t, "the result of "+name, got, want, e)
		c = roomyBook(memoryBook())
		was := wholeBook(c)
		got, e = make(c)
		other, f := make(c)
		overwriteBook(got)
		sameBook(t, "the argument of "+name, wholeBook(c), was, e)
		sameBook(t, "a further result of "+name, other, want, f)
		// The spans of one person do not share memory with those of another one.
		got, _ = make(c)
		overwrite(got.People[0].Duty, span(-7, -7))
		same(t, "the other person of "+name, got.People[1].Duty, want.People[1].Duty, api.OK)
		got.People[0].Duty = append(got.People[0].Duty, span(-7, -7))
		same(t, "the other person of "+name, got.People[1].Duty, want.People[1].Duty, api.OK)
	}
}

// TestR6Results overwrites results, one after the other: no other result and no later call may change.
func TestR6Results(t *testing.T) {
	c := memoryBook()
	l := uses(use(7, 1, 300), use(7, 2, 600), use(9, 1, 30))
	bad := uses(use(7, 1, 300), use(7, 2, 300), use(7, 1, 300))
	history, _ := custody.History(c, 7)
	lists := func() [][]int {
		_, held, e := custody.Held(c, 7, history, 1000)
		holders, f := custody.Holders(c, 7, 500)
		copiers, g := custody.Copiers(c, 7, 500)
		hands, h := custody.Hands(c, 7, span(0, 1000))
		suspects, i := custody.Suspects(brokenBook(), 7)
		core, j := custody.Core(c, bad)
		men, k := custody.Men(c, l[:1])
		all := [][]int{held, holders, copiers, hands, suspects, core, men}
		if max(e, f, g, h, i, j, k) != api.OK || slices.ContainsFunc(all, func(l []int) bool { return len(l) == 0 }) {
			t.Error(all, e, f, g, h, i, j, k)
		}
		return all
	}
	want, got := lists(), lists()
	for k, l := range got {
		same(t, "a result", l, want[k], api.OK)
		overwrite(l, -7)
	}
	for k, l := range lists() {
		same(t, "a later result", l, want[k], api.OK)
	}
	p, e := custody.Prove(c, l)
	again, f := custody.Prove(c, l)
	for k := range p {
		same(t, "a proof", p[k], again[k], max(e, f))
		overwrite(p[k], unrecorded(-7, -7))
	}
	overwrite(p, nil)
	if p, e := custody.Prove(c, l); e != api.OK || custody.CheckProof(c, l, p) != api.OK || custody.CheckProof(c, l, again) != api.OK {
		t.Error("Prove once more", p, e)
	}
	keep := slices.Clone(history)
	overwrite(history, unrecorded(-7, -7))
	history, e = custody.History(c, 7)
	same(t, "History once more", history, keep, e)
	sameBook(t, "the book", c, memoryBook(), api.OK)
}
