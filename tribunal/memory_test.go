package tribunal_test

import (
	"reflect"
	"slices"
	"testing"

	"patrol/api"
	"patrol/tribunal"
)

// roomy returns a copy of a value, in which other elements lie behind the end of each list.
func roomy[T any](x T) T {
	v := reflect.ValueOf(&x).Elem()
	makeRoomy(v)
	return x
}

func makeRoomy(v reflect.Value) {
	switch v.Kind() {
	case reflect.Struct:
		for k := range v.NumField() {
			makeRoomy(v.Field(k))
		}
	case reflect.Slice:
		l := reflect.MakeSlice(v.Type(), v.Len()+3, v.Len()+3)
		reflect.Copy(l, v)
		for k := range v.Len() {
			makeRoomy(l.Index(k))
		}
		for k := v.Len(); k < l.Len(); k++ {
			spoil(l.Index(k))
		}
		v.Set(l.Slice(0, v.Len()))
	}
}

// spoil changes all numbers and strings of a value, also those in its lists, up to their capacities.
func spoil(v reflect.Value) {
	switch v.Kind() {
	case reflect.Struct:
		for k := range v.NumField() {
			spoil(v.Field(k))
		}
	case reflect.Slice:
		l := v.Slice(0, v.Cap())
		for k := range l.Len() {
			spoil(l.Index(k))
		}
	case reflect.Int:
		v.SetInt(-77)
	case reflect.String:
		v.SetString("spoilt")
	case reflect.Bool:
		v.SetBool(!v.Bool())
	}
}

// spoilAll changes everything that a value refers to.
func spoilAll[T any](x T) { spoil(reflect.ValueOf(&x).Elem()) }

// whole returns a copy of a value with memory of its own, whose lists have what lies behind their ends, too.
func whole[T any](x T) T {
	v := reflect.ValueOf(&x).Elem()
	makeWhole(v)
	return x
}

func makeWhole(v reflect.Value) {
	switch v.Kind() {
	case reflect.Struct:
		for k := range v.NumField() {
			makeWhole(v.Field(k))
		}
	case reflect.Slice:
		l := reflect.MakeSlice(v.Type(), v.Cap(), v.Cap())
		reflect.Copy(l, v.Slice(0, v.Cap()))
		for k := range l.Len() {
			makeWhole(l.Index(k))
		}
		v.Set(l)
	}
}

// region is the memory of a list.
type region struct{ from, to uintptr }

// regions returns the memory of all lists of a value.
func regions(v reflect.Value) []region {
	var all []region
	switch v.Kind() {
	case reflect.Struct:
		for k := range v.NumField() {
			all = append(all, regions(v.Field(k))...)
		}
	case reflect.Slice:
		if v.Cap() > 0 {
			size := uintptr(v.Cap()) * v.Type().Elem().Size()
			all = append(all, region{v.Pointer(), v.Pointer() + size})
		}
		for k := range v.Len() {
			all = append(all, regions(v.Index(k))...)
		}
	}
	return all
}

// apart checks that no two lists of some values, or of one of them, share memory. Each string's bytes can be shared, for nothing can change them.
func apart(t *testing.T, what string, values ...any) {
	t.Helper()
	var all []region
	for _, x := range values {
		all = append(all, regions(reflect.ValueOf(x))...)
	}
	slices.SortFunc(all, func(a, b region) int { return int(a.from) - int(b.from) })
	for k := range all[:max(len(all), 1)-1] {
		if all[k].to > all[k+1].from {
			t.Error(what, "lists share memory")
		}
	}
}

// voidFacts are those of the examples, whose watchman was in the loft.
func voidFacts() []api.Fact { return changed(1, func(f *api.Fact) { f.Dial.Start = 2 }) }

// manyQuestions are questions whose answers have something in each field.
func manyQuestions() []api.Question {
	return append(aboutExamples(), verdict(4, 7), api.Question{}, who(70000, 7, "loft"), balance(60000, 9, 0, 5))
}

// TestR6Arguments checks that arguments stay as they were, also behind their ends.
func TestR6Arguments(t *testing.T) {
	for _, list := range [][]api.Fact{fullFacts(), voidFacts(), richFacts(), large()} {
		l, qs := roomy(list), roomy(manyQuestions())
		var rs []api.Reply
		for _, q := range qs {
			rs = append(rs, tribunal.Answer(l, q))
		}
		rs = roomy(rs)
		was, wereQs, wereRs := whole(l), whole(qs), whole(rs)
		for k, q := range qs {
			tribunal.CheckQuestion(q)
			tribunal.Print(q)
			tribunal.Accept(l, q, rs[k])
			tribunal.Accept(l, q, rs[0])
			tribunal.Same(rs[k], rs[0])
			tribunal.Tell(rs[k])
		}
		tribunal.Audit(l, qs, rs)
		spoilAll(first(tribunal.Until(l, 70000)))
		spoilAll(first(tribunal.Merge(l, l[1:])))
		spoilAll(first(tribunal.Merge(l[:2], l[1:])))
		same(t, "the facts", whole(l), api.OK, was)
		same(t, "the questions", whole(qs), api.OK, wereQs)
		same(t, "the replies", whole(rs), api.OK, wereRs)
	}
}

// first returns the first result of a call.
func first[T any](x T, _ api.Errno) T { return x }

// fresh checks that what a call returns is new memory, which nothing else changes.
func fresh[T any](t *testing.T, what string, list []api.Fact, call func(l []api.Fact) (T, api.Errno)) {
	t.Helper()
	l := roomy(list)
	was := whole(l)
	one, e := call(l)
	two, f := call(l)
	apart(t, what, one, two, l)
	want := copyOf(two)
	if max(e, f) != api.OK {
		t.Error(what, e, f)
	}
	spoilAll(one)
	same(t, what+": a further result", two, f, want)
	three, e := call(l)
	same(t, what+": a later result", three, e, want)
	same(t, what+": the facts", whole(l), api.OK, was)
	spoilAll(l)
	same(t, what+": when the facts are gone", three, e, want)
}

func TestR6Results(t *testing.T) {
	for _, l := range [][]api.Fact{fullFacts(), voidFacts()} {
		for _, q := range manyQuestions() {
			fresh(t, "Answer", l, func(l []api.Fact) (api.Reply, api.Errno) { return tribunal.Answer(l, q), api.OK })
		}
	}
	for _, l := range [][]api.Fact{fullFacts(), richFacts(), slices.Repeat(richFacts(), 2), shared()} {
		fresh(t, "Until", l, func(l []api.Fact) ([]api.Fact, api.Errno) { return tribunal.Until(l, api.MaxTime) })
		fresh(t, "Merge", l, func(l []api.Fact) ([]api.Fact, api.Errno) { return tribunal.Merge(l, nil) })
		fresh(t, "Merge", l, func(l []api.Fact) ([]api.Fact, api.Errno) { return tribunal.Merge(l[:2], l) })
	}
}

// shared returns a list of valid facts of which many lists are the same memory.
func shared() []api.Fact {
	visit := api.Order{Kind: api.OrVisit, Names: []string{"mill"}}
	kids := []api.Order{visit, visit}
	either := api.Order{Kind: api.OrEither, Kids: kids}
	d := exampleDial()
	d.Order = api.Order{Kind: api.OrThen, Gap: span(0, 86400), Kids: []api.Order{either, either}}
	s := exampleSetting()
	s.House.Doors = []api.Door{{Hours: s.House.Doors[0].Hours, Shut: s.House.Doors[0].Hours}, s.House.Doors[0]}
	b := exampleBook()
	b.People[1].Duty = b.People[0].Duty
	m := exampleMarks()
	return facts(settingFact(1, 1, 5, s), dialFact(1, 2, 5, d), custodyFact(1, 3, 5, b), lookFact(1, 4, 5, 7, 4, m...), dialFact(1, 5, 5, d), settingFact(1, 6, 5, s), custodyFact(1, 7, 5, b), lookFact(1, 8, 5, 7, 4, m...))
}

// TestR6Shared checks that results are new memory, also where an argument shares it with itself.
func TestR6Shared(t *testing.T) {
	l := shared()
	got, e := tribunal.Until(l, 5)
	apart(t, "Until", got)
	same(t, "Until", got, e, l)
	got, e = tribunal.Merge(l, l)
	apart(t, "Merge", got)
	same(t, "Merge", got, e, l)
	for _, q := range []api.Question{verdict(5, 7), missed(5, 7, "mill"), missed(5, 7, "gate")} {
		apart(t, "Answer", tribunal.Answer(l, q))
	}
}

// TestR6Courts changes everything that a court was given, and that it returned: it does not matter.
func TestR6Courts(t *testing.T) {
	x := newTrial(t, 3)
	for _, f := range with(facts(unnamed(fullFacts()[0]), unnamed(fullFacts()[1])), richFacts()[1:5]...) {
		f = unnamed(f)
		f.Known = 70000
		a := roomy(write(1, f))
		was := whole(a)
		r, e := x.Do(a)
		same(t, "the act", whole(a), api.OK, was)
		spoilAll(a.Fact)
		_, g := x.model.do(write(1, f))
		same(t, "Do", r, max(e, g), api.Reply{})
		x.isLike(t, "when the fact that was written is gone", x.Court)
	}
	x.does(t, api.OK, send(1, 2), double(0), send(1, 3), deliver(2))
	one, two, three := first(x.Facts(1)), first(x.Facts(1)), first(x.Facts(3))
	apart(t, "Facts", one, two, three, x.Post(), x.Post())
	spoilAll(one)
	spoilAll(three)
	spoilAll(x.Post())
	x.isLike(t, "when what it returned is gone", x.Court)
	// Both letters are what they were, also when one was delivered, and its facts have been told.
	x.does(t, api.OK, deliver(0))
	spoilAll(first(x.Facts(2)))
	x.does(t, api.OK, crash(2, 1), crash(2, 1), deliver(0))
	for _, q := range append(aboutExamples(), who(70000, 7, "loft"), balance(60000, 9, 0, 5)) {
		rs, e := x.Ask(q)
		more, f := x.Ask(q)
		want := copyOf(more)
		apart(t, "Ask", rs, more)
		spoilAll(rs)
		same(t, "Ask", more, max(e, f), want)
		r, e := x.Do(ask(1, q))
		same(t, "AcAsk", r, e, want[0])
		spoilAll(r)
	}
	x.isLike(t, "when its answers are gone", x.Court)
}

// TestR6Run checks that acts stay as they were, and that replies are apart.
func TestR6Run(t *testing.T) {
	var acts []api.Act
	for _, f := range fullFacts()[:3] {
		f = unnamed(f)
		f.Known = 60000
		acts = append(acts, write(1, f))
	}
	acts = roomy(append(acts, send(1, 2), ask(1, verdict(60000, 7)), ask(1, missed(60000, 7, "mill")), ask(1, verdict(60000, 7))))
	was := whole(acts)
	rs, errnos, e := tribunal.Run(2, acts)
	more, _, _ := tribunal.Run(2, acts)
	apart(t, "Run", rs, errnos, more, acts)
	if e != api.OK || len(rs[4].Readings) != 2 || len(rs[5].Readings) != 1 {
		t.Error("Run", rs, errnos, e)
	}
	want := copyOf(more)
	spoilAll(rs)
	same(t, "Run: a further result", more, e, want)
	same(t, "the acts", whole(acts), api.OK, was)
}
