package custody_test

import (
	"cmp"
	"slices"
	"testing"

	"patrol/api"
	"patrol/custody"
)

const (
	maxInt = 1<<63 - 1
	minInt = -1 << 63
)

// chance is a generator of numbers that are the same in each run.
type chance uint64

// n returns a number from 0 to limit - 1.
func (c *chance) n(limit int) int {
	*c = *c*6364136223846793005 + 1442695040888963407
	return int(uint64(*c)>>33) % limit
}

// from returns a number from lo to hi.
func (c *chance) from(lo, hi int) int { return lo + c.n(hi-lo+1) }

func (c *chance) pick(l ...int) int { return l[c.n(len(l))] }

// span returns a span from lo to hi.
func (c *chance) span(lo, hi int) api.Span {
	x, y := c.from(lo, hi), c.from(lo, hi)
	return span(min(x, y), max(x, y))
}

func span(lo, hi int) api.Span { return api.Span{Lo: lo, Hi: hi} }

func spans(l ...api.Span) []api.Span { return l }

func person(id int, duty ...api.Span) api.Person { return api.Person{ID: id, Duty: duty} }

func pass(id, key, from, to, lo, hi int) api.Entry {
	return api.Entry{ID: id, Key: key, Kind: api.CuPass, From: from, To: to, At: span(lo, hi)}
}

func copying(id, key, from, lo, hi int) api.Entry {
	return api.Entry{ID: id, Key: key, Kind: api.CuCopy, From: from, At: span(lo, hi)}
}

func lose(id, key, from, lo, hi int) api.Entry {
	return api.Entry{ID: id, Key: key, Kind: api.CuLose, From: from, At: span(lo, hi)}
}

func find(id, key, to, lo, hi int) api.Entry {
	return api.Entry{ID: id, Key: key, Kind: api.CuFind, To: to, At: span(lo, hi)}
}

// moves returns moves of entries, of which an ID and a time are given each.
func moves(l ...int) []api.Move {
	var m []api.Move
	for k := 0; k < len(l); k += 2 {
		m = append(m, api.Move{Entry: l[k], Time: l[k+1]})
	}
	return m
}

// unrecorded is a move that was not recorded.
func unrecorded(to, t int) api.Move { return api.Move{To: to, Time: t} }

func use(key, who, t int) api.Use { return api.Use{Key: key, Who: who, Time: t} }

func uses(l ...api.Use) []api.Use { return l }

// exampleBook is the book c of the chapter's examples.
func exampleBook() api.Custody {
	return api.Custody{
		People:  []api.Person{person(1, span(0, 1000)), person(2, span(500, 2000))},
		Keys:    []int{7},
		Entries: []api.Entry{pass(1, 7, 0, 1, 100, 200), pass(2, 7, 1, 2, 400, 600), copying(3, 7, 2, 300, 700), pass(4, 7, 2, 0, 900, 900)},
	}
}

// brokenBook is that of the examples with the entry 5, for which its key is not consistent.
func brokenBook() api.Custody {
	return with(func(c *api.Custody) { c.Entries = append(c.Entries, pass(5, 7, 1, 0, 800, 850)) })
}

// with returns the book of the examples, changed.
func with(change func(c *api.Custody)) api.Custody {
	c := exampleBook()
	change(&c)
	return c
}

// fullBook has as many persons, keys and entries as there may be, and the greatest numbers.
func fullBook() api.Custody {
	c := api.Custody{Gaps: api.MaxGaps}
	for k := range api.MaxPeople {
		p := person(api.MaxID - api.MaxPeople + 1 + k)
		for n := range api.MaxDuty {
			p.Duty = append(p.Duty, span(api.MaxTime-2*api.MaxDuty+1+2*n, api.MaxTime-2*api.MaxDuty+2+2*n))
		}
		c.People = append(c.People, p)
	}
	for k := range api.MaxHeld {
		c.Keys = append(c.Keys, api.MaxID-api.MaxHeld+1+k)
	}
	for k := range api.MaxEntries {
		key, who := c.Keys[k%api.MaxHeld], c.People[k/api.MaxHeld].ID
		c.Entries = append(c.Entries, pass(api.MaxID-k, key, api.Board, who, 0, api.MaxTime))
	}
	return c
}

// copyOf returns a book with memory of its own.
func copyOf(c api.Custody) api.Custody {
	c.People, c.Keys, c.Entries = slices.Clone(c.People), slices.Clone(c.Keys), slices.Clone(c.Entries)
	for k, p := range c.People {
		c.People[k].Duty = slices.Clone(p.Duty)
	}
	return c
}

// isSame reports whether two books are the same, up to nil and empty lists.
func isSame(a, b api.Custody) bool {
	people := slices.EqualFunc(a.People, b.People, func(x, y api.Person) bool { return x.ID == y.ID && slices.Equal(x.Duty, y.Duty) })
	return people && a.Gaps == b.Gaps && slices.Equal(a.Keys, b.Keys) && slices.Equal(a.Entries, b.Entries)
}

func sameBook(t *testing.T, what string, got, want api.Custody, e api.Errno) {
	t.Helper()
	if !isSame(got, want) || e != api.OK {
		t.Errorf("%s: %v %d, not %v", what, got, e, want)
	}
}

func same[T comparable](t *testing.T, what string, got, want []T, e api.Errno) {
	t.Helper()
	if !slices.Equal(got, want) || e != api.OK {
		t.Errorf("%s: %v %d, not %v", what, got, e, want)
	}
}

// shuffle returns a list in some other order.
func shuffle[T any](c *chance, l []T) []T {
	l = slices.Clone(l)
	for k := range l {
		n := c.from(k, len(l)-1)
		l[k], l[n] = l[n], l[k]
	}
	return l
}

// sizes bound the books that chance makes.
type sizes struct{ people, keys, entries, gaps, lo, hi int }

// duty returns the duty of a person, from lo to hi.
func (c *chance) duty(lo, hi int) []api.Span {
	var l []api.Span
	for range c.n(3) + 1 {
		x := c.span(lo, hi)
		if len(l) == 0 || x.Lo > l[len(l)-1].Hi {
			l = append(l, x)
		}
	}
	if c.n(2) == 0 {
		return spans(span(lo, hi))
	}
	return l
}

// entry returns an entry of a key that is valid for a book with persons, at times from lo to hi.
func (c *chance) entry(b api.Custody, id, key, lo, hi int) api.Entry {
	who := func() int { return b.People[c.n(len(b.People))].ID }
	kept := func() int { return c.pick(api.Board, who(), who()) }
	at := c.span(lo, hi)
	switch c.n(8) {
	case 0:
		return lose(id, key, kept(), at.Lo, at.Hi)
	case 1:
		return find(id, key, kept(), at.Lo, at.Hi)
	case 2, 3:
		return copying(id, key, who(), at.Lo, at.Hi)
	}
	x := pass(id, key, kept(), kept(), at.Lo, at.Hi)
	if x.From == x.To {
		x.From, x.To = api.Board, who()
	}
	return x
}

// book returns a valid book with persons, of entries that need not fit together.
func (c *chance) book(s sizes) api.Custody {
	b := api.Custody{Gaps: c.from(0, s.gaps)}
	for k := range c.from(1, s.people) {
		b.People = append(b.People, person(3*k+c.from(1, 3), c.duty(s.lo, s.hi)...))
	}
	for k := range c.from(1, s.keys) {
		b.Keys = append(b.Keys, 2*k+c.from(1, 2))
	}
	id := 0
	for _, key := range b.Keys {
		for range c.from(0, s.entries) {
			id += c.from(1, 4)
			b.Entries = append(b.Entries, c.entry(b, id, key, s.lo, s.hi))
		}
	}
	b.Entries = shuffle(c, b.Entries)
	return b
}

// use returns a use that is valid for a book.
func (c *chance) use(b api.Custody, lo, hi int) api.Use {
	return use(b.Keys[c.n(len(b.Keys))], b.People[c.n(len(b.People))].ID, c.from(lo, hi))
}

// truth is what was true of a key behind a time: its place, and who had copies.
type truth struct {
	time, place int
	copies      []int
}

// trueBook returns a book of what truly happened, and for each key what was true behind each move: each move has an entry, at times about the true one, or was not recorded.
func (c *chance) trueBook(people, keys, entries, lo, hi int) (api.Custody, map[int][]truth) {
	b := api.Custody{Gaps: api.MaxGaps}
	for k := range people {
		b.People = append(b.People, person(10+k, c.duty(lo, hi)...))
	}
	all := map[int][]truth{}
	for key := 1; key <= keys; key++ {
		b.Keys = append(b.Keys, key)
		all[key] = c.night(&b, key, c.from(0, entries), lo, hi)
	}
	b.Entries = shuffle(c, b.Entries)
	return b, all
}

// night lets a key be moved, and writes entries of most of its moves into a book.
func (c *chance) night(b *api.Custody, key, entries, lo, hi int) []truth {
	var at []int
	for range entries + c.n(api.MaxGaps+1) {
		at = append(at, c.from(lo, hi))
	}
	slices.Sort(at)
	told := []truth{{time: 0, place: api.Board}}
	gaps := len(at) - entries
	for k, t := range at {
		now := told[len(told)-1]
		about := span(max(lo, t-c.n(4)), min(hi, t+c.n(4)))
		to := c.pick(api.Board, b.People[c.n(len(b.People))].ID, b.People[c.n(len(b.People))].ID)
		next := truth{t, to, now.copies}
		x := pass(100*key+k, key, now.place, to, about.Lo, about.Hi)
		switch kind := c.n(6); {
		case now.place == api.Nobody:
			x = find(100*key+k, key, to, about.Lo, about.Hi)
		case gaps > 0 && to != now.place && c.n(2) == 0:
			gaps--
			told = append(told, next)
			continue
		case kind == 0:
			x, next.place = lose(100*key+k, key, now.place, about.Lo, about.Hi), api.Nobody
		case now.place != api.Board && (kind == 1 || to == now.place):
			x, next.place = copying(100*key+k, key, now.place, about.Lo, about.Hi), now.place
			next.copies = append(slices.Clone(now.copies), now.place)
		case to == now.place:
			continue // it stays on the board
		}
		if countOf(*b, key) == api.MaxOfKey || len(b.Entries) == api.MaxEntries {
			return told
		}
		b.Entries = append(b.Entries, x)
		told = append(told, next)
	}
	return told
}

// countOf returns how many entries a key has.
func countOf(c api.Custody, key int) int { return len(entriesOf(c, key)) }

// behindTruth returns what was true behind a time.
func behindTruth(l []truth, t int) truth {
	k, _ := slices.BinarySearchFunc(l, t+1, func(x truth, t int) int { return cmp.Compare(x.time, t) })
	return l[k-1]
}

// outcome is what a call returned: its error, and whether all other results were zero.
type outcome struct {
	e    api.Errno
	zero bool
}

// args are arguments of the functions.
type args struct {
	key, t, id int
	l          []api.Move
	s          api.Span
	uses       []api.Use
	p          [][]api.Move
	entry      api.Entry
	ids        []int
}

// rightArgs are right for the book of the examples.
func rightArgs() args {
	return args{key: 7, t: 500, id: 3, l: moves(1, 100, 2, 400, 3, 400, 4, 900), s: span(0, 2000), uses: uses(use(7, 1, 300)), p: [][]api.Move{moves(1, 100, 2, 400, 3, 400, 4, 900)}, entry: pass(5, 7, 0, 1, 950, 960), ids: []int{2}}
}

// calls returns the outcome of each function but Check and Parse.
func calls(c api.Custody, x args) map[string]outcome {
	m := map[string]outcome{}
	put := func(name string, e api.Errno, zero bool) { m[name] = outcome{e, zero} }
	put("CheckHistory", custody.CheckHistory(c, x.key, x.l), true)
	history, e := custody.History(c, x.key)
	put("History", e, len(history) == 0)
	n, l, e := custody.Held(c, x.key, x.l, x.t)
	put("Held", e, n == 0 && len(l) == 0)
	l, e = custody.Holders(c, x.key, x.t)
	put("Holders", e, len(l) == 0)
	l, e = custody.Copiers(c, x.key, x.t)
	put("Copiers", e, len(l) == 0)
	l, e = custody.Hands(c, x.key, x.s)
	put("Hands", e, len(l) == 0)
	s, e := custody.When(c, x.id)
	put("When", e, s == api.Span{})
	n, e = custody.Needed(c, x.key)
	put("Needed", e, n == 0)
	l, e = custody.Suspects(c, x.key)
	put("Suspects", e, len(l) == 0)
	is, e := custody.Fits(c, x.uses)
	put("Fits", e, !is)
	p, e := custody.Prove(c, x.uses)
	put("Prove", e, len(p) == 0)
	put("CheckProof", custody.CheckProof(c, x.uses, x.p), true)
	l, e = custody.Core(c, x.uses)
	put("Core", e, len(l) == 0)
	l, e = custody.Men(c, x.uses)
	put("Men", e, len(l) == 0)
	other, e := custody.With(c, x.entry)
	put("With", e, isSame(other, api.Custody{}))
	other, e = custody.Without(c, x.ids)
	put("Without", e, isSame(other, api.Custody{}))
	text, e := custody.Print(c)
	put("Print", e, text == "")
	return m
}

// allFail checks that some functions return an error, and nothing else.
func allFail(t *testing.T, what string, m map[string]outcome, e api.Errno, names ...string) {
	t.Helper()
	for _, name := range names {
		if x, is := m[name]; x.e != e || !x.zero || !is {
			t.Error(what, name, x, e)
		}
	}
}

// The functions that take a key, and those that take uses.
var (
	ofKeys = []string{"CheckHistory", "History", "Held", "Holders", "Copiers", "Hands", "Needed", "Suspects"}
	ofUses = []string{"Fits", "Prove", "CheckProof", "Core", "Men"}
)
