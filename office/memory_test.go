package office_test

import (
	"reflect"
	"slices"
	"testing"

	"patrol/api"
	"patrol/office"
)

// roomy returns a copy of a value, in which other elements lie behind the end of each list.
func roomy[T any](x T) T {
	v := reflect.ValueOf(&x).Elem()
	makeRoomy(v)
	return x
}

func makeRoomy(v reflect.Value) {
	switch v.Kind() {
	case reflect.Struct:
		for k := range v.NumField() {
			makeRoomy(v.Field(k))
		}
	case reflect.Slice:
		l := reflect.MakeSlice(v.Type(), v.Len()+3, v.Len()+3)
		reflect.Copy(l, v)
		for k := range v.Len() {
			makeRoomy(l.Index(k))
		}
		for k := v.Len(); k < l.Len(); k++ {
			spoil(l.Index(k))
		}
		v.Set(l.Slice(0, v.Len()))
	}
}

// spoil changes all numbers and strings of a value, also those in its lists, up to their capacities.
func spoil(v reflect.Value) {
	switch v.Kind() {
	case reflect.Struct:
		for k := range v.NumField() {
			spoil(v.Field(k))
		}
	case reflect.Slice:
		l := v.Slice(0, v.Cap())
		for k := range l.Len() {
			spoil(l.Index(k))
		}
	case reflect.Int:
		v.SetInt(-77)
	case reflect.String:
		v.SetString("spoilt")
	}
}

// spoilAll changes everything that a value refers to.
func spoilAll[T any](x T) { spoil(reflect.ValueOf(&x).Elem()) }

// whole returns a copy of a value with memory of its own, whose lists have what lies behind their ends, too.
func whole[T any](x T) T {
	v := reflect.ValueOf(&x).Elem()
	makeWhole(v)
	return x
}

func makeWhole(v reflect.Value) {
	switch v.Kind() {
	case reflect.Struct:
		for k := range v.NumField() {
			makeWhole(v.Field(k))
		}
	case reflect.Slice:
		l := reflect.MakeSlice(v.Type(), v.Cap(), v.Cap())
		reflect.Copy(l, v.Slice(0, v.Cap()))
		for k := range l.Len() {
			makeWhole(l.Index(k))
		}
		v.Set(l)
	}
}

// copyOf returns a copy of a value with memory of its own, without what lies behind the ends of its lists.
func copyOf[T any](x T) T {
	x = roomy(x)
	return clipped(x)
}

// clipped returns a value whose lists have no room behind their ends.
func clipped[T any](x T) T {
	v := reflect.ValueOf(&x).Elem()
	clip(v)
	return x
}

func clip(v reflect.Value) {
	switch v.Kind() {
	case reflect.Struct:
		for k := range v.NumField() {
			clip(v.Field(k))
		}
	case reflect.Slice:
		v.Set(v.Slice3(0, v.Len(), v.Len()))
		for k := range v.Len() {
			clip(v.Index(k))
		}
	}
}

// region is the memory of a list.
type region struct{ from, to uintptr }

// regions returns the memory of all lists of a value.
func regions(v reflect.Value) []region {
	var all []region
	switch v.Kind() {
	case reflect.Struct:
		for k := range v.NumField() {
			all = append(all, regions(v.Field(k))...)
		}
	case reflect.Slice:
		if v.Cap() > 0 {
			size := uintptr(v.Cap()) * v.Type().Elem().Size()
			all = append(all, region{v.Pointer(), v.Pointer() + size})
		}
		for k := range v.Len() {
			all = append(all, regions(v.Index(k))...)
		}
	}
	return all
}

// apart checks that no two lists of some values, or of one of them, share memory. Each string's bytes can be shared, for nothing can change them.
func apart(t *testing.T, what string, values ...any) {
	t.Helper()
	var all []region
	for _, x := range values {
		all = append(all, regions(reflect.ValueOf(x))...)
	}
	slices.SortFunc(all, func(a, b region) int { return int(a.from) - int(b.from) })
	for k := range all[:max(len(all), 1)-1] {
		if all[k].to > all[k+1].from {
			t.Error(what, "lists share memory")
		}
	}
}

// richArgs are arguments for which each function has much to tell.
func richArgs() args {
	x := rightArgs()
	x.l = with(x.l, policyFact(4, 3, 2, api.Policy{Since: 4, Base: 9}), roundDial(4, 4, 3, 9, 3, 2, 1, 2), roundDial(4, 5, 3, 11, 4, 2, 1, 2))
	x.l[1].Dial = richDial()
	x.l[1].Dial.Start = 0
	x.l[0].Setting = richSetting()
	x.l[0].Setting.Since = 0
	return x
}

// TestR6Arguments checks that arguments stay as they were, also behind their ends.
func TestR6Arguments(t *testing.T) {
	for _, l := range [][]api.Fact{rightArgs().l, richArgs().l, richFacts(), slices.Repeat(richFacts(), 2)} {
		x := rightArgs()
		x.l = roomy(l)
		was := whole(x.l)
		for _, n := range names(name(1, 1), name(1, 2), name(3, 1), name(2, 2)) {
			x.name = n
			calls(x)
		}
		office.CheckFacts(x.l)
		o := opened(t, 3)
		o.Take(x.l)
		for k, f := range x.l {
			office.CheckFact(f)
			office.Same(f, x.l[0])
			office.Encode(f)
			office.Page(k+1, f)
			o.Take(x.l[k:])
			o.Write(unnamed(f))
		}
		spoilAll(o.Facts())
		spoilAll(o.Pages())
		same(t, "the facts", whole(x.l), api.OK, was)
	}
	pages := roomy(pagesOf(chain()))
	was := whole(pages)
	o, _ := office.Open(3, pages)
	o.Write(policyFact(0, 0, 5, api.Policy{}))
	same(t, "the pages", whole(pages), api.OK, was)
	have := roomy([]int{0, 1, 2, 3, 0, 0, 0, 0})
	wasHave := whole(have)
	o.Since(have)
	same(t, "the numbers", whole(have), api.OK, wasHave)
}

// fresh checks that what a call returns is new memory, which nothing else changes.
func fresh[T any](t *testing.T, what string, call func(x args) (T, api.Errno)) {
	t.Helper()
	x := richArgs()
	x.l = roomy(x.l)
	was := whole(x.l)
	first, e := call(x)
	second, f := call(x)
	apart(t, what, first, second, x.l)
	want := copyOf(second)
	if outcomeOf(first, e).zero || max(e, f) != api.OK {
		t.Error(what, first, e, f)
	}
	spoilAll(first)
	same(t, what+": a further result", second, f, want)
	third, e := call(x)
	same(t, what+": a later result", third, e, want)
	same(t, what+": the facts", whole(x.l), api.OK, was)
	spoilAll(x.l)
	same(t, what+": when the facts are gone", third, e, want)
}

func TestR6Results(t *testing.T) {
	fresh(t, "Standing", func(x args) ([]api.Name, api.Errno) { return office.Standing(x.l, x.known) })
	fresh(t, "Case", func(x args) (api.Case, api.Errno) { return office.Case(x.l, x.known, x.dial) })
	fresh(t, "Case with one look", func(x args) (api.Case, api.Errno) { return office.Case(x.l, 60000, x.dial) })
	fresh(t, "View", func(x args) ([]api.Judged, api.Errno) { return office.View(x.l, x.known) })
	fresh(t, "Rounds", func(x args) ([]api.Round, api.Errno) { return office.Rounds(x.l, x.known) })
	fresh(t, "Policies", func(x args) ([]api.Policy, api.Errno) { return office.Policies(x.l, x.known) })
	fresh(t, "Ledger", func(x args) ([]api.Posting, api.Errno) { return office.Ledger(x.l, x.known, x.nights) })
	fresh(t, "Amend", func(x args) ([]api.Posting, api.Errno) { return office.Amend(x.l, 1, x.known, x.nights) })
	fresh(t, "Book", func(x args) (api.Custody, api.Errno) { return office.Book(x.l, x.known) })
	fresh(t, "Rests", func(x args) ([]int, api.Errno) { return office.Rests(x.l, x.known, name(1, 1)) })
	for _, text := range richTexts() {
		fresh(t, "Decode", func(args) (api.Fact, api.Errno) { return office.Decode(text) })
	}
}

// shared returns a list of valid facts of which many lists are the same memory.
func shared() []api.Fact {
	visit := api.Order{Kind: api.OrVisit, Names: []string{"mill"}}
	kids := []api.Order{visit, visit}
	either := api.Order{Kind: api.OrEither, Kids: kids}
	d := exampleDial()
	d.Order = api.Order{Kind: api.OrThen, Gap: span(0, 86400), Kids: []api.Order{either, either}}
	s := exampleSetting()
	s.House.Doors = []api.Door{{Hours: s.House.Doors[0].Hours, Shut: s.House.Doors[0].Hours}, s.House.Doors[0]}
	c := richCustody()
	c.People[1].Duty = c.People[0].Duty
	return facts(settingFact(1, 1, 5, s), dialFact(1, 2, 5, d), custodyFact(1, 3, 5, c), lookFact(1, 4, 5, 7, 4, exampleMarks()...), dialFact(1, 5, 5, d), settingFact(1, 6, 5, s), custodyFact(1, 7, 5, c))
}

// TestR6Shared checks that results are new memory, also where an argument shares it with itself.
func TestR6Shared(t *testing.T) {
	l := shared()
	c, e := office.Case(l, 5, 7)
	apart(t, "Case", c)
	if e != api.OK {
		t.Error("Case", e)
	}
	b, e := office.Book(l, 5)
	apart(t, "Book", b)
	if e != api.OK {
		t.Error("Book", e)
	}
	o := taker(t, 2, l)
	apart(t, "Facts", o.Facts(), o.Facts())
	f, e := o.Write(unnamed(l[1]))
	apart(t, "Write", f, o.Facts())
	if e != api.OK {
		t.Error("Write", e)
	}
}

// TestR6Offices changes everything that an office was given, and that it returned: it does not matter.
func TestR6Offices(t *testing.T) {
	l := chain()
	pages := pagesOf(l)
	o, e := office.Open(3, pages)
	if e != api.OK {
		t.Fatal("Open", e)
	}
	spoilAll(pages)
	holds(t, "when the pages are gone", o, l)
	given := facts(roomy(settingFact(4, 1, 5, richSetting())), roomy(dialFact(4, 2, 5, richDial())), roomy(custodyFact(4, 3, 5, richCustody())), roomy(lookFact(4, 4, 5, 7, 4, exampleMarks()...)))
	l = append(l, copyOf(given)...)
	if n, e := o.Take(given); n != 4 || e != api.OK {
		t.Error("Take", n, e)
	}
	spoilAll(given)
	holds(t, "when the facts that were taken are gone", o, l)
	for k, f := range facts(settingFact(0, 0, 5, richSetting()), dialFact(0, 0, 5, richDial()), custodyFact(0, 0, 5, richCustody()), lookFact(0, 0, 5, 7, 4, exampleMarks()...)) {
		x := roomy(f)
		got, e := o.Write(x)
		f.Office, f.No = 3, k+1
		same(t, "Write", got, e, f)
		apart(t, "Write", got, x, o.Facts())
		spoilAll(x)
		spoilAll(got)
		l = append(l, f)
		holds(t, "when the fact that was written is gone", o, l)
	}
	since, e := o.Since(make([]int, api.MaxOffices))
	if e != api.OK {
		t.Error("Since", e)
	}
	apart(t, "an office", o.Facts(), o.Facts(), since, o.Pages(), o.Pages(), o.Have(), o.Have())
	spoilAll(o.Facts())
	spoilAll(since)
	spoilAll(o.Pages())
	spoilAll(o.Have())
	holds(t, "when what it returned is gone", o, l)
	// Two offices that took the same facts do not share them.
	other := taker(t, 1, o.Facts())
	apart(t, "two offices", o.Facts(), other.Facts())
	spoilAll(other.Facts())
	holds(t, "when another office's facts are gone", o, l)
}
