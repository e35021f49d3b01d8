package tribunal_test

import (
	"fmt"
	"reflect"
	"slices"
	"testing"

	"patrol/api"
	"patrol/order"
)

const (
	maxInt = 1<<63 - 1
	minInt = -1 << 63
)

// chance is a generator of numbers that are the same in each run.
type chance uint64

// n returns a number from 0 to limit - 1.
func (c *chance) n(limit int) int {
	*c = *c*6364136223846793005 + 1442695040888963407
	return int(uint64(*c)>>33) % limit
}

// from returns a number from lo to hi.
func (c *chance) from(lo, hi int) int { return lo + c.n(hi-lo+1) }

func (c *chance) pick(l ...int) int { return l[c.n(len(l))] }

// one returns an element of a list.
func one[T any](c *chance, l ...T) T { return l[c.n(len(l))] }

// shuffled returns a copy of a list in another order.
func shuffled[T any](c *chance, l []T) []T {
	l = slices.Clone(l)
	for k := range l {
		other := c.from(k, len(l)-1)
		l[k], l[other] = l[other], l[k]
	}
	return l
}

func span(lo, hi int) api.Span { return api.Span{Lo: lo, Hi: hi} }

func has(x api.Span, n int) bool { return x.Lo <= n && n <= x.Hi }

func arc(from, length int) api.Arc { return api.Arc{From: from, Len: length} }

// sourced returns the order of a source that has one.
func sourced(source string) api.Order {
	o, e, _ := order.Parse(source)
	if e != api.OK {
		panic("no order: " + source)
	}
	return o
}

// exampleHouse is the house of the examples of layer 3.
func exampleHouse() api.House {
	return api.House{
		Rooms: []api.Room{{Name: "gate"}, {Name: "mill"}, {Name: "loft", Floor: 1}},
		Doors: []api.Door{{Hours: []api.Span{span(21600, 64800)}}},
		Ways:  []api.Way{{A: 0, B: 1, Secs: 60, Back: 60, Door: -1}, {A: 1, B: 2, Secs: 30, Back: 0, Door: 0}},
	}
}

func exampleSetting() api.Setting {
	return api.Setting{
		House:    exampleHouse(),
		Keys:     []api.Key{{ID: 1, Pattern: 7}, {ID: 2, Pattern: 56}, {ID: 3, Pattern: 448}},
		Stations: []api.Station{{Name: "gate", Key: 1, Room: 0}, {Name: "mill", Key: 2, Room: 1}, {Name: "loft", Key: 3, Room: 2}},
	}
}

func exampleSession() api.Session {
	return api.Session{ID: 1, In: span(30000, 30000), Out: span(39000, 41000), Zero: span(0, 0), End: span(9000, 11000), Rate: span(api.Million, api.Million)}
}

func exampleDial() api.Dial {
	return api.Dial{No: 7, Night: 3, Round: 1, Crew: []int{9}, Session: exampleSession(), Start: 0, Since: 30000, Order: sourced("gate then mill then loft")}
}

// exampleMarks are what the reader 4 saw, secondMarks what the reader 2 saw, and loftMarks what one sees who contradicts the latter, but not the former: the loft's key made the second mark.
func exampleMarks() []api.Mark {
	return []api.Mark{{At: arc(1000, 0), Seen: 7, Blank: 4088}, {At: arc(1100, 0), Blank: 7}, {At: arc(1200, 0), Seen: 448, Blank: 63}}
}
func secondMarks() []api.Mark {
	return []api.Mark{{At: arc(0, 43199)}, {At: arc(1100, 0), Seen: 8}, {At: arc(0, 43199)}}
}
func loftMarks() []api.Mark {
	return []api.Mark{{At: arc(0, 43199)}, {At: arc(1050, 100), Seen: 64, Blank: 56}, {At: arc(0, 43199)}}
}

// The facts of one kind each, with the office, the number and the time at which they became known.
func settingFact(office, no, known int, s api.Setting) api.Fact {
	return api.Fact{Office: office, No: no, Known: known, Kind: api.FaSetting, Setting: s}
}
func dialFact(office, no, known int, d api.Dial) api.Fact {
	return api.Fact{Office: office, No: no, Known: known, Kind: api.FaDial, Dial: d}
}
func lookFact(office, no, known, dial, reader int, marks ...api.Mark) api.Fact {
	return api.Fact{Office: office, No: no, Known: known, Kind: api.FaLook, Look: api.Look{Dial: dial, Reader: reader, Marks: marks}}
}
func policyFact(office, no, known int, p api.Policy) api.Fact {
	return api.Fact{Office: office, No: no, Known: known, Kind: api.FaPolicy, Policy: p}
}
func custodyFact(office, no, known int, c api.Custody) api.Fact {
	return api.Fact{Office: office, No: no, Known: known, Kind: api.FaCustody, Custody: c}
}
func withdrawal(office, no, known int, target api.Name) api.Fact {
	return api.Fact{Office: office, No: no, Known: known, Kind: api.FaWithdraw, Target: target}
}

func name(office, no int) api.Name { return api.Name{Office: office, No: no} }

func nameOf(f api.Fact) api.Name { return name(f.Office, f.No) }

func facts(l ...api.Fact) []api.Fact { return l }

// with returns a list with some facts more.
func with(l []api.Fact, more ...api.Fact) []api.Fact { return slices.Concat(l, more) }

// unnamed returns a fact as an office is given it to write.
func unnamed(f api.Fact) api.Fact {
	f.Office, f.No = 0, 0
	return f
}

// exampleFacts are the facts of the examples of layer 8.
func exampleFacts() []api.Fact {
	return facts(
		settingFact(1, 1, 5, exampleSetting()),
		dialFact(1, 2, 5, exampleDial()),
		lookFact(2, 1, 60000, 7, 4, exampleMarks()...),
		lookFact(3, 1, 70000, 7, 2, secondMarks()...),
		withdrawal(2, 2, 80000, name(3, 1)),
	)
}

// exampleBook is a custody book of the keys of the examples: the man 9 can have got the key 2 ahead of the second mark, and the man 3 gets it later.
func exampleBook() api.Custody {
	return api.Custody{
		People: []api.Person{{ID: 3, Duty: []api.Span{span(0, 90000)}}, {ID: 9, Duty: []api.Span{span(30000, 40000)}}}, Keys: []int{1, 2, 3},
		Entries: []api.Entry{{ID: 1, Key: 2, Kind: api.CuPass, From: api.Board, To: 9, At: span(30000, 31000)}, {ID: 2, Key: 2, Kind: api.CuPass, From: 9, To: 3, At: span(31500, 32000)}},
	}
}

func examplePolicy() api.Policy {
	return api.Policy{Since: 2, Base: 500, Credit: 40, Charge: 100, Doubt: 30, Cap: 60, Bonus: 250}
}

// fullFacts are those of the examples, with a policy and a custody book.
func fullFacts() []api.Fact {
	return with(exampleFacts(), policyFact(4, 1, 1, examplePolicy()), custodyFact(4, 2, 1, exampleBook()))
}

// The questions of each kind.
func verdict(known, dial int) api.Question {
	return api.Question{Kind: api.QuVerdict, Known: known, Dial: dial}
}
func missed(known, dial int, place string) api.Question {
	return api.Question{Kind: api.QuMissed, Known: known, Dial: dial, Place: place}
}
func when(known, dial int, place string) api.Question {
	return api.Question{Kind: api.QuWhen, Known: known, Dial: dial, Place: place}
}
func who(known, dial int, place string) api.Question {
	return api.Question{Kind: api.QuWho, Known: known, Dial: dial, Place: place}
}
func placed(known, dial int, place string, lo, hi int) api.Question {
	return api.Question{Kind: api.QuPlaced, Known: known, Dial: dial, Place: place, Span: span(lo, hi)}
}
func balance(known, account, lo, hi int) api.Question {
	return api.Question{Kind: api.QuBalance, Known: known, Account: account, Span: span(lo, hi)}
}
func amend(known, before, lo, hi int) api.Question {
	return api.Question{Kind: api.QuAmend, Known: known, Before: before, Span: span(lo, hi)}
}
func rests(known, office, no int) api.Question {
	return api.Question{Kind: api.QuRests, Known: known, Name: name(office, no)}
}

// aboutExamples are questions of all kinds about the facts of the examples, which have answers.
func aboutExamples() []api.Question {
	return []api.Question{
		verdict(5, 7), verdict(60000, 7), verdict(70000, 7), missed(60000, 7, "mill"), missed(70000, 7, "loft"), when(60000, 7, "mill"), who(60000, 7, "mill"),
		placed(60000, 7, "mill", 30000, 31200), placed(60000, 7, "mill", 31202, 40000), balance(70000, api.AcHouse, 0, 9), amend(70000, 60000, 3, 3), rests(70000, 3, 1),
	}
}

// isEqual reports whether two values are equal, of which empty lists may be nil.
func isEqual(a, b any) bool { return isEqualValue(reflect.ValueOf(a), reflect.ValueOf(b)) }

func isEqualValue(v, w reflect.Value) bool {
	switch v.Kind() {
	case reflect.Struct:
		for k := range v.NumField() {
			if !isEqualValue(v.Field(k), w.Field(k)) {
				return false
			}
		}
		return true
	case reflect.Slice:
		if v.Len() != w.Len() {
			return false
		}
		for k := range v.Len() {
			if !isEqualValue(v.Index(k), w.Index(k)) {
				return false
			}
		}
		return true
	}
	return v.Interface() == w.Interface()
}

// same checks a result, and that there is no error.
func same[T any](t *testing.T, what string, got T, e api.Errno, want T) {
	t.Helper()
	if !isEqual(got, want) || e != api.OK {
		t.Errorf("%s: %s %d, not %s", what, short(got), e, short(want))
	}
}

// short returns a text of a value that is not too long.
func short(x any) string {
	text := fmt.Sprint(x)
	return text[:min(len(text), 1000)]
}

// none checks that there is an error, and that the result is zero.
func none[T any](t *testing.T, what string, got T, e, want api.Errno) {
	t.Helper()
	var zero T
	if !isEqual(got, zero) || e != want {
		t.Errorf("%s: %s %d, not %d", what, short(got), e, want)
	}
}

// sorted returns facts in the order of their names.
func sorted(l []api.Fact) []api.Fact {
	l = slices.Clone(l)
	slices.SortFunc(l, func(a, b api.Fact) int { return 1000*(a.Office-b.Office) + a.No - b.No })
	return l
}

// hasStation reports whether a visit of a sequence is to a station.
func hasStation(l []api.Read, station int) bool {
	return slices.ContainsFunc(l, func(x api.Read) bool { return x.Station == station })
}
