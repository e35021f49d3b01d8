package office_test

import (
	"fmt"
	"reflect"
	"slices"
	"testing"

	"patrol/api"
	"patrol/office"
	"patrol/order"
)

const (
	maxInt = 1<<63 - 1
	minInt = -1 << 63
)

// chance is a generator of numbers that are the same in each run.
type chance uint64

// n returns a number from 0 to limit - 1.
func (c *chance) n(limit int) int {
	*c = *c*6364136223846793005 + 1442695040888963407
	return int(uint64(*c)>>33) % limit
}

// from returns a number from lo to hi.
func (c *chance) from(lo, hi int) int { return lo + c.n(hi-lo+1) }

func (c *chance) pick(l ...int) int { return l[c.n(len(l))] }

// shuffled returns a copy of a list in another order.
func shuffled[T any](c *chance, l []T) []T {
	l = slices.Clone(l)
	for k := range l {
		other := c.from(k, len(l)-1)
		l[k], l[other] = l[other], l[k]
	}
	return l
}

func span(lo, hi int) api.Span { return api.Span{Lo: lo, Hi: hi} }

func arc(from, length int) api.Arc { return api.Arc{From: from, Len: length} }

// sourced returns the order of a source that has one.
func sourced(source string) api.Order {
	o, e, _ := order.Parse(source)
	if e != api.OK {
		panic("no order: " + source)
	}
	return o
}

// exampleHouse is the house of the examples of layer 3.
func exampleHouse() api.House {
	return api.House{
		Rooms: []api.Room{{Name: "gate"}, {Name: "mill"}, {Name: "loft", Floor: 1}},
		Doors: []api.Door{{Hours: []api.Span{span(21600, 64800)}}},
		Ways:  []api.Way{{A: 0, B: 1, Secs: 60, Back: 60, Door: -1}, {A: 1, B: 2, Secs: 30, Back: 0, Door: 0}},
	}
}

func exampleSetting() api.Setting {
	return api.Setting{
		House:    exampleHouse(),
		Keys:     []api.Key{{ID: 1, Pattern: 7}, {ID: 2, Pattern: 56}, {ID: 3, Pattern: 448}},
		Stations: []api.Station{{Name: "gate", Key: 1, Room: 0}, {Name: "mill", Key: 2, Room: 1}, {Name: "loft", Key: 3, Room: 2}},
	}
}

func exampleSession() api.Session {
	return api.Session{ID: 1, In: span(30000, 30000), Out: span(39000, 41000), Zero: span(0, 0), End: span(9000, 11000), Rate: span(api.Million, api.Million)}
}

func exampleDial() api.Dial {
	return api.Dial{No: 7, Night: 3, Round: 1, Crew: []int{9}, Session: exampleSession(), Start: 0, Since: 30000, Order: sourced("gate then mill then loft")}
}

// exampleMarks are what the reader 4 saw, secondMarks what the reader 2 saw, and loftMarks what one sees who contradicts the latter, but not the former: the loft's key made the second mark.
func exampleMarks() []api.Mark {
	return []api.Mark{{At: arc(1000, 0), Seen: 7, Blank: 4088}, {At: arc(1100, 0), Blank: 7}, {At: arc(1200, 0), Seen: 448, Blank: 63}}
}
func secondMarks() []api.Mark {
	return []api.Mark{{At: arc(0, 43199)}, {At: arc(1100, 0), Seen: 8}, {At: arc(0, 43199)}}
}
func loftMarks() []api.Mark {
	return []api.Mark{{At: arc(0, 43199)}, {At: arc(1050, 100), Seen: 64, Blank: 56}, {At: arc(0, 43199)}}
}

// The facts of one kind each, with the office, the number and the time at which they became known.
func settingFact(office, no, known int, s api.Setting) api.Fact {
	return api.Fact{Office: office, No: no, Known: known, Kind: api.FaSetting, Setting: s}
}
func dialFact(office, no, known int, d api.Dial) api.Fact {
	return api.Fact{Office: office, No: no, Known: known, Kind: api.FaDial, Dial: d}
}
func lookFact(office, no, known, dial, reader int, marks ...api.Mark) api.Fact {
	return api.Fact{Office: office, No: no, Known: known, Kind: api.FaLook, Look: api.Look{Dial: dial, Reader: reader, Marks: marks}}
}
func policyFact(office, no, known int, p api.Policy) api.Fact {
	return api.Fact{Office: office, No: no, Known: known, Kind: api.FaPolicy, Policy: p}
}
func custodyFact(office, no, known int, c api.Custody) api.Fact {
	return api.Fact{Office: office, No: no, Known: known, Kind: api.FaCustody, Custody: c}
}
func withdrawal(office, no, known int, target api.Name) api.Fact {
	return api.Fact{Office: office, No: no, Known: known, Kind: api.FaWithdraw, Target: target}
}

func name(office, no int) api.Name { return api.Name{Office: office, No: no} }

func nameOf(f api.Fact) api.Name { return name(f.Office, f.No) }

func facts(l ...api.Fact) []api.Fact { return l }

func names(l ...api.Name) []api.Name { return l }

// unnamed returns a fact as an office is given it to write.
func unnamed(f api.Fact) api.Fact {
	f.Office, f.No = 0, 0
	return f
}

// exampleFacts are the facts of the chapter's examples.
func exampleFacts() []api.Fact {
	return facts(
		settingFact(1, 1, 5, exampleSetting()),
		dialFact(1, 2, 5, exampleDial()),
		lookFact(2, 1, 60000, 7, 4, exampleMarks()...),
		lookFact(3, 1, 70000, 7, 2, secondMarks()...),
		withdrawal(2, 2, 80000, name(3, 1)),
	)
}

// richSetting, richDial and the others have something in each list, and no zero where there need not be one.
func richSetting() api.Setting {
	s := exampleSetting()
	s.Since, s.Ink = 12, api.Ink{Faint: 1, Stray: 2, Slip: 30}
	s.House.Rooms[0].Floor = -2
	s.House.Doors = append(s.House.Doors, api.Door{}, api.Door{Shut: []api.Span{span(5, 6), span(8, 99)}})
	s.Keys = append(s.Keys, api.Key{ID: api.MaxID, Track: 3, Pattern: 4095})
	return s
}
func richDial() api.Dial {
	d := exampleDial()
	d.Crew, d.Start = []int{3, 9, api.MaxID}, 2
	d.Session = api.Session{ID: 4, In: span(30000, 30010), Out: span(39000, 41000), Zero: span(1, 9), End: span(9000, 11000), Rate: span(990000, 1010000), Stops: []api.Stop{{At: 50, Secs: span(1, 2)}, {At: 60, Secs: span(3, 30)}}}
	d.Order = sourced("gate then after 60 to 90 (each(mill, loft) or times 1 to 2 mill) within 5000")
	return d
}
func richPolicy() api.Policy {
	return api.Policy{Since: 2, Base: 500, Credit: 40, Charge: 100, Doubt: 30, Cap: 60, Bonus: 250}
}
func richCustody() api.Custody {
	return api.Custody{
		People: []api.Person{{ID: 3, Duty: []api.Span{span(1, 2), span(4, 9)}}, {ID: 9}}, Keys: []int{1, 2}, Gaps: 2,
		Entries: []api.Entry{{ID: 5, Key: 2, Kind: api.CuPass, From: 0, To: 9, At: span(1, 7)}, {ID: 4, Key: 1, Kind: api.CuLose, From: 3, At: span(2, 3)}},
	}
}

// richFacts are one fact of each kind.
func richFacts() []api.Fact {
	return facts(
		settingFact(8, 60, 0, richSetting()),
		dialFact(1, 2, 7, richDial()),
		lookFact(2, 1, 60000, 7, 4, exampleMarks()...),
		policyFact(3, 9, api.MaxTime, richPolicy()),
		custodyFact(4, 4, 70000, richCustody()),
		withdrawal(5, 2, 80000, name(5, 3)),
	)
}

// rich returns the fact of a kind of these, changed.
func rich(kind int, changes ...func(f *api.Fact)) api.Fact {
	f := richFacts()[kind-1]
	for _, change := range changes {
		change(&f)
	}
	return f
}

// isEqual reports whether two values are equal, of which empty lists may be nil.
func isEqual(a, b any) bool { return isEqualValue(reflect.ValueOf(a), reflect.ValueOf(b)) }

func isEqualValue(v, w reflect.Value) bool {
	switch v.Kind() {
	case reflect.Struct:
		for k := range v.NumField() {
			if !isEqualValue(v.Field(k), w.Field(k)) {
				return false
			}
		}
		return true
	case reflect.Slice:
		if v.Len() != w.Len() {
			return false
		}
		for k := range v.Len() {
			if !isEqualValue(v.Index(k), w.Index(k)) {
				return false
			}
		}
		return true
	}
	return v.Interface() == w.Interface()
}

// same checks a result, and that there is no error.
func same[T any](t *testing.T, what string, got T, e api.Errno, want T) {
	t.Helper()
	if !isEqual(got, want) || e != api.OK {
		t.Errorf("%s: %s %d, not %s", what, short(got), e, short(want))
	}
}

// short returns a text of a value that is not too long.
func short(x any) string {
	text := fmt.Sprint(x)
	return text[:min(len(text), 1000)]
}

// none checks that there is an error, and that the result is zero.
func none[T any](t *testing.T, what string, got T, e, want api.Errno) {
	t.Helper()
	var zero T
	if !isEqual(got, zero) || e != want {
		t.Errorf("%s: %s %d, not %d", what, short(got), e, want)
	}
}

// opened returns an office without facts.
func opened(t *testing.T, id int) *office.Office {
	t.Helper()
	o, e := office.Open(id, nil)
	if e != api.OK || o.ID() != id {
		t.Fatal("Open", id, e)
	}
	return o
}

// taker returns an office that has taken some facts.
func taker(t *testing.T, id int, l []api.Fact) *office.Office {
	t.Helper()
	o := opened(t, id)
	if n, e := o.Take(l); n != len(l) || e != api.OK {
		t.Fatal("Take", n, e)
	}
	return o
}

// holds checks which facts an office holds, in the order in which they came: by all that it tells of them.
func holds(t *testing.T, what string, o *office.Office, came []api.Fact) {
	t.Helper()
	have := make([]int, api.MaxOffices)
	var pages []string
	for k, f := range came {
		page, e := office.Page(k+1, f)
		if e != api.OK {
			t.Error(what, "Page", e)
		}
		pages = append(pages, page)
		have[f.Office-1]++
	}
	same(t, what+": Have", o.Have(), api.OK, have)
	same(t, what+": Pages", o.Pages(), api.OK, pages)
	same(t, what+": Facts", o.Facts(), api.OK, sorted(came))
}

// sorted returns facts in the order of their names.
func sorted(l []api.Fact) []api.Fact {
	l = slices.Clone(l)
	slices.SortFunc(l, func(a, b api.Fact) int { return 1000*(a.Office-b.Office) + a.No - b.No })
	return l
}
