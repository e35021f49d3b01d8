package office_test

import (
	"reflect"
	"slices"
	"strings"
	"testing"

	"patrol/api"
	"patrol/office"
)

// edit is a change of a fact.
type edit = func(f *api.Fact)

// checked checks what CheckFact returns for the rich fact of a kind, changed in some ways.
func checked(t *testing.T, kind int, want api.Errno, edits ...edit) {
	t.Helper()
	for k, change := range edits {
		f := rich(kind, change)
		if e := office.CheckFact(f); e != want {
			t.Errorf("CheckFact: kind %d, edit %d: %d, not %d: %v", kind, k, e, want, f)
		}
		if text, e := office.Encode(f); e != want || (text == "") != (want != api.OK) {
			t.Errorf("Encode: kind %d, edit %d: %q %d, not %d", kind, k, text, e, want)
		}
	}
}

func TestP8_1Fields(t *testing.T) {
	for kind := 1; kind <= 6; kind++ {
		checked(t, kind, api.OK,
			func(f *api.Fact) {}, func(f *api.Fact) { f.Office, f.No = 1, 1 }, func(f *api.Fact) { f.Office, f.No = api.MaxOffices, api.MaxNo }, func(f *api.Fact) { f.Known = 0 }, func(f *api.Fact) { f.Known = api.MaxTime },
		)
		checked(t, kind, api.ErrArg,
			func(f *api.Fact) { f.Office = 0 }, func(f *api.Fact) { f.Office = api.MaxOffices + 1 }, func(f *api.Fact) { f.Office = -1 },
			func(f *api.Fact) { f.No = 0 }, func(f *api.Fact) { f.No = api.MaxNo + 1 }, func(f *api.Fact) { f.No = minInt },
			func(f *api.Fact) { f.Known = -1 }, func(f *api.Fact) { f.Known = api.MaxTime + 1 }, func(f *api.Fact) { f.Known = maxInt },
			func(f *api.Fact) { f.Kind = 0 }, func(f *api.Fact) { f.Kind = 7 }, func(f *api.Fact) { f.Kind = -1 }, func(f *api.Fact) { f.Kind = f.Kind%6 + 1 },
		)
	}
	for _, f := range slices.Concat(exampleFacts(), richFacts()) {
		if e := office.CheckFact(f); e != api.OK {
			t.Error("CheckFact", f, e)
		}
	}
	if e := office.CheckFact(api.Fact{}); e != api.ErrArg {
		t.Error("CheckFact of nothing", e)
	}
}

func TestP8_1Settings(t *testing.T) {
	key := func(id int) api.Key { return api.Key{ID: id, Pattern: 1} }
	stations := func(n int) edit {
		return func(f *api.Fact) {
			f.Setting.Keys, f.Setting.Stations = nil, nil
			for k := range n {
				f.Setting.Keys = append(f.Setting.Keys, key(k+1))
				f.Setting.Stations = append(f.Setting.Stations, api.Station{Name: "s" + string(rune('0'+k)), Key: k + 1, Room: 1})
			}
		}
	}
	keys := func(n int) edit {
		return func(f *api.Fact) {
			f.Setting.Keys = nil
			for k := range n {
				f.Setting.Keys = append(f.Setting.Keys, key(k+1))
			}
		}
	}
	checked(t, api.FaSetting, api.OK,
		func(f *api.Fact) { f.Setting.Since = 0 }, func(f *api.Fact) { f.Setting.Since = api.MaxTime },
		func(f *api.Fact) { f.Setting.Ink = api.Ink{Faint: 4, Stray: 4, Slip: 600} }, func(f *api.Fact) { f.Setting.Ink = api.Ink{} },
		func(f *api.Fact) { f.Setting.House = api.House{Rooms: f.Setting.House.Rooms} },
		func(f *api.Fact) { f.Setting.Stations = nil }, func(f *api.Fact) { f.Setting.Stations, f.Setting.Keys = nil, nil }, stations(8), keys(40), keys(3),
		func(f *api.Fact) { f.Setting.Stations[1].Name = strings.Repeat("z", 16) }, func(f *api.Fact) { f.Setting.Stations[1].Name = "0" }, func(f *api.Fact) { f.Setting.Stations[1].Name = "then" },
		func(f *api.Fact) { f.Setting.Stations[1].Room = 0 }, func(f *api.Fact) { f.Setting.Stations[1].Key = api.MaxID },
		func(f *api.Fact) { f.Setting.Keys[1].Pattern = 7 }, // it can be confused with the first one: a bunch need not be a cabinet
	)
	checked(t, api.FaSetting, api.ErrArg,
		func(f *api.Fact) { f.Setting.Since = -1 }, func(f *api.Fact) { f.Setting.Since = api.MaxTime + 1 },
		func(f *api.Fact) { f.Setting.House = api.House{} }, func(f *api.Fact) { f.Setting.House.Rooms[1].Name = "gate" }, func(f *api.Fact) { f.Setting.House.Ways[1].Door = 3 }, func(f *api.Fact) { f.Setting.House.Rooms = make([]api.Room, api.MaxRooms+1) }, func(f *api.Fact) { f.Setting.House.Doors[2].Shut[1].Lo = 7 },
		func(f *api.Fact) { f.Setting.Keys[0].ID = 0 }, func(f *api.Fact) { f.Setting.Keys[1].ID = 1 }, func(f *api.Fact) { f.Setting.Keys[0], f.Setting.Keys[1] = f.Setting.Keys[1], f.Setting.Keys[0] }, func(f *api.Fact) { f.Setting.Keys[2].Pattern = 0 }, func(f *api.Fact) { f.Setting.Keys[2].Track = 4 }, keys(41), keys(2),
		func(f *api.Fact) { f.Setting.Ink.Faint = 5 }, func(f *api.Fact) { f.Setting.Ink.Stray = -1 }, func(f *api.Fact) { f.Setting.Ink.Slip = 601 },
		stations(9),
		func(f *api.Fact) { f.Setting.Stations[1].Name = "" }, func(f *api.Fact) { f.Setting.Stations[1].Name = strings.Repeat("z", 17) }, func(f *api.Fact) { f.Setting.Stations[1].Name = "Mill" }, func(f *api.Fact) { f.Setting.Stations[1].Name = "a b" }, func(f *api.Fact) { f.Setting.Stations[1].Name = "gate" }, func(f *api.Fact) { f.Setting.Stations[2].Name = "gate" },
		func(f *api.Fact) { f.Setting.Stations[1].Key = 4 }, func(f *api.Fact) { f.Setting.Stations[1].Key = 1 }, func(f *api.Fact) { f.Setting.Stations[2].Key = 1 },
		func(f *api.Fact) { f.Setting.Stations[1].Room = 3 }, func(f *api.Fact) { f.Setting.Stations[1].Room = -1 },
	)
}

func TestP8_1Dials(t *testing.T) {
	checked(t, api.FaDial, api.OK,
		func(f *api.Fact) { f.Dial.No = 1 }, func(f *api.Fact) { f.Dial.No = api.MaxID },
		func(f *api.Fact) { f.Dial.Night = 0 }, func(f *api.Fact) { f.Dial.Night = api.MaxNight }, func(f *api.Fact) { f.Dial.Round = api.MaxRounds },
		func(f *api.Fact) { f.Dial.Crew = []int{1, 2, 3, api.MaxID} }, func(f *api.Fact) { f.Dial.Crew = []int{1} },
		func(f *api.Fact) { f.Dial.Session.Stops = nil }, func(f *api.Fact) { f.Dial.Session = exampleSession() },
		func(f *api.Fact) { f.Dial.Start = 0 }, func(f *api.Fact) { f.Dial.Start = api.MaxRooms - 1 },
		func(f *api.Fact) { f.Dial.Since = 0 }, func(f *api.Fact) { f.Dial.Since = api.MaxTime },
		func(f *api.Fact) { f.Dial.Order = sourced("a") }, func(f *api.Fact) { f.Dial.Order = longOrder() },
	)
	loop := api.Order{Kind: api.OrWithin, Kids: make([]api.Order, 1)}
	loop.Kids[0] = loop
	checked(t, api.FaDial, api.ErrArg,
		func(f *api.Fact) { f.Dial.No = 0 }, func(f *api.Fact) { f.Dial.No = api.MaxID + 1 },
		func(f *api.Fact) { f.Dial.Night = -1 }, func(f *api.Fact) { f.Dial.Night = api.MaxNight + 1 }, func(f *api.Fact) { f.Dial.Round = 0 }, func(f *api.Fact) { f.Dial.Round = api.MaxRounds + 1 },
		func(f *api.Fact) { f.Dial.Crew = nil }, func(f *api.Fact) { f.Dial.Crew = []int{0} }, func(f *api.Fact) { f.Dial.Crew = []int{2, 2} }, func(f *api.Fact) { f.Dial.Crew = []int{2, 1} }, func(f *api.Fact) { f.Dial.Crew = []int{1, 2, 3, 4, 5} }, func(f *api.Fact) { f.Dial.Crew = []int{api.MaxID + 1} },
		func(f *api.Fact) { f.Dial.Session = api.Session{} }, func(f *api.Fact) { f.Dial.Session.ID = 0 }, func(f *api.Fact) { f.Dial.Session.In.Lo = 30011 }, func(f *api.Fact) { f.Dial.Session.Stops = make([]api.Stop, 5) }, func(f *api.Fact) { f.Dial.Session.Stops[1].At = 50 }, func(f *api.Fact) { f.Dial.Session.Rate.Hi = api.MaxRate + 1 },
		func(f *api.Fact) { f.Dial.Start = -1 }, func(f *api.Fact) { f.Dial.Start = api.MaxRooms },
		func(f *api.Fact) { f.Dial.Since = -1 }, func(f *api.Fact) { f.Dial.Since = api.MaxTime + 1 },
		func(f *api.Fact) { f.Dial.Order = api.Order{} }, func(f *api.Fact) { f.Dial.Order = api.Order{Kind: api.OrVisit, Names: []string{"Mill"}} }, func(f *api.Fact) { f.Dial.Order = loop },
		// Orders that have no text.
		func(f *api.Fact) { f.Dial.Order = api.Order{Kind: api.OrVisit, Names: []string{"then"}} }, func(f *api.Fact) { f.Dial.Order = api.Order{Kind: api.OrVisit, Names: []string{"12"}} },
	)
}

func TestP8_1Others(t *testing.T) {
	checked(t, api.FaLook, api.OK,
		func(f *api.Fact) { f.Look.Dial, f.Look.Reader = 1, 1 }, func(f *api.Fact) { f.Look.Dial, f.Look.Reader = api.MaxID, api.MaxID },
		func(f *api.Fact) { f.Look.Marks = nil }, func(f *api.Fact) { f.Look.Marks = make([]api.Mark, api.MaxStrikes) },
	)
	checked(t, api.FaLook, api.ErrArg,
		func(f *api.Fact) { f.Look.Dial = 0 }, func(f *api.Fact) { f.Look.Dial = api.MaxID + 1 }, func(f *api.Fact) { f.Look.Reader = 0 }, func(f *api.Fact) { f.Look.Reader = api.MaxID + 1 },
		func(f *api.Fact) { f.Look.Marks = make([]api.Mark, api.MaxStrikes+1) }, func(f *api.Fact) { f.Look.Marks[2].Blank = 64 }, func(f *api.Fact) { f.Look.Marks[0].At.From = -1 },
	)
	checked(t, api.FaPolicy, api.OK,
		func(f *api.Fact) { f.Policy = api.Policy{} }, func(f *api.Fact) { f.Policy.Since = api.MaxNight }, func(f *api.Fact) { f.Policy.Cap = 500 },
	)
	checked(t, api.FaPolicy, api.ErrArg,
		func(f *api.Fact) { f.Policy.Since = api.MaxNight + 1 }, func(f *api.Fact) { f.Policy.Cap = 501 }, func(f *api.Fact) { f.Policy.Bonus = 1001 }, func(f *api.Fact) { f.Policy.Doubt = -1 },
	)
	checked(t, api.FaCustody, api.OK,
		func(f *api.Fact) { f.Custody = api.Custody{} }, func(f *api.Fact) { f.Custody.Gaps = api.MaxGaps },
		func(f *api.Fact) { f.Custody.Entries[1].Kind = api.CuFind; f.Custody.Entries[1].From = 0 }, // no history, but a valid book
	)
	checked(t, api.FaCustody, api.ErrArg,
		func(f *api.Fact) { f.Custody.Gaps = api.MaxGaps + 1 }, func(f *api.Fact) { f.Custody.People[1].ID = 3 }, func(f *api.Fact) { f.Custody.Entries[1].ID = 5 }, func(f *api.Fact) { f.Custody.People = make([]api.Person, api.MaxPeople+1) },
	)
	checked(t, api.FaWithdraw, api.OK,
		func(f *api.Fact) { f.Target = name(1, 1) }, func(f *api.Fact) { f.Target = name(api.MaxOffices, api.MaxNo) }, func(f *api.Fact) { f.Target = name(4, 2) }, func(f *api.Fact) { f.Target = name(5, 1) },
	)
	checked(t, api.FaWithdraw, api.ErrArg,
		func(f *api.Fact) { f.Target = name(5, 2) }, func(f *api.Fact) { f.Target = api.Name{} }, func(f *api.Fact) { f.Target.Office = 9 }, func(f *api.Fact) { f.Target.Office = 0 }, func(f *api.Fact) { f.Target.No = 0 }, func(f *api.Fact) { f.Target.No = 61 }, func(f *api.Fact) { f.Target.No = -1 },
	)
}

// longOrder returns an order of as many nodes as there may be, with as long a text as they can have.
func longOrder() api.Order {
	gap, left := span(86399, 86399), api.MaxNodes-13
	var parts []api.Order
	for depth := 2; depth <= 8; depth++ {
		o := api.Order{Kind: api.OrEach}
		for k := range api.MaxEach {
			o.Names = append(o.Names, strings.Repeat("z", 15)+string(rune('a'+depth%2*4+k)))
		}
		for range min(left, api.MaxDepth-depth) {
			o = api.Order{Kind: api.OrTimes, Gap: gap, Lo: 1, Hi: 1, Kids: []api.Order{o}}
			left--
		}
		parts = append(parts, o)
	}
	o := parts[6]
	for k := 5; k >= 0; k-- {
		o = api.Order{Kind: api.OrThen, Gap: gap, Kids: []api.Order{o, parts[k]}}
	}
	return o
}

// leaves calls a function with each number, and each string, of a value, which it can change; and with each list.
func leaves(v reflect.Value, f func(leaf reflect.Value)) {
	switch v.Kind() {
	case reflect.Struct:
		for k := range v.NumField() {
			leaves(v.Field(k), f)
		}
	case reflect.Slice:
		for k := range v.Len() {
			leaves(v.Index(k), f)
		}
		f(v)
	default:
		f(v)
	}
}

// mixed returns a fact, which is not valid, that has a field of each kind.
func mixed() api.Fact {
	l := richFacts()
	return api.Fact{Office: 3, No: 7, Known: 9, Kind: 2, Setting: l[0].Setting, Dial: l[1].Dial, Look: l[2].Look, Policy: l[3].Policy, Custody: l[4].Custody, Target: l[5].Target}
}

// others yields, one after the other, a fact that differs from the mixed one in one number, string or list.
func others(yield func(f api.Fact, list bool)) {
	n := 0
	plain := mixed()
	leaves(reflect.ValueOf(&plain).Elem(), func(reflect.Value) { n++ })
	for at := range n {
		f, k := mixed(), 0
		list := false
		leaves(reflect.ValueOf(&f).Elem(), func(leaf reflect.Value) {
			if k == at {
				switch leaf.Kind() {
				case reflect.Int:
					leaf.SetInt(leaf.Int() + 1)
				case reflect.String:
					leaf.SetString(leaf.String() + "x")
				case reflect.Slice:
					list = true
					leaf.Set(reflect.Append(leaf, reflect.Zero(leaf.Type().Elem())))
				}
			}
			k++
		})
		yield(f, list)
	}
}

func TestP8_1Same(t *testing.T) {
	n := 0
	others(func(f api.Fact, _ bool) {
		n++
		if office.Same(f, mixed()) || office.Same(mixed(), f) || !office.Same(f, f) {
			t.Error("Same", f)
		}
	})
	if n < 200 || !office.Same(mixed(), mixed()) || !office.Same(api.Fact{}, api.Fact{}) || office.Same(api.Fact{}, mixed()) {
		t.Error("Same", n)
	}
}

// TestP8_1Zero checks that a fact is not valid if a field of another kind is not zero, be it a number, a string or a list.
func TestP8_1Zero(t *testing.T) {
	for kind := 1; kind <= 6; kind++ {
		f := rich(kind)
		fields := reflect.ValueOf(&f).Elem()
		for k := 4; k < fields.NumField(); k++ {
			if !fields.Field(k).IsZero() {
				continue
			}
			n := 0
			leaves(fields.Field(k), func(reflect.Value) { n++ })
			for at := range n {
				f := rich(kind)
				here := 0
				leaves(reflect.ValueOf(&f).Elem().Field(k), func(leaf reflect.Value) {
					if here == at {
						switch leaf.Kind() {
						case reflect.Int:
							leaf.SetInt(-1)
						case reflect.String:
							leaf.SetString("x")
						case reflect.Slice:
							leaf.Set(reflect.MakeSlice(leaf.Type(), 1, 1))
						}
					}
					here++
				})
				if e := office.CheckFact(f); e != api.ErrArg {
					t.Error("CheckFact", f, e)
				}
			}
		}
		if e := office.CheckFact(emptied(rich(kind))); e != api.OK {
			t.Error("CheckFact with empty lists", kind, e)
		}
	}
}

// emptied returns a fact of which all empty lists are not nil.
func emptied(f api.Fact) api.Fact {
	v := reflect.ValueOf(&f).Elem()
	leaves(v, func(leaf reflect.Value) {
		if leaf.Kind() == reflect.Slice && leaf.Len() == 0 {
			leaf.Set(reflect.MakeSlice(leaf.Type(), 0, 2))
		}
	})
	return f
}

func TestP8_1SameLists(t *testing.T) {
	for _, f := range append(richFacts(), mixed(), api.Fact{}) {
		if g := emptied(f); !office.Same(f, g) || !office.Same(g, f) {
			t.Error("Same with empty lists", f)
		}
	}
	if f := (api.Fact{Dial: api.Dial{Order: api.Order{Kids: []api.Order{}, Names: []string{}}}}); !office.Same(f, api.Fact{}) {
		t.Error("Same with empty lists")
	}
}

// TestP8_1SameOrders compares orders that are not valid: far too deep and too wide, and, which no list of bytes could be, without an end.
func TestP8_1SameOrders(t *testing.T) {
	fact := func(o api.Order) api.Fact { return api.Fact{Kind: 2, Dial: api.Dial{Order: o}} }
	chain := func(n, most int) api.Fact {
		o := api.Order{Most: most}
		for range n {
			o = api.Order{Kids: []api.Order{o}}
		}
		return fact(o)
	}
	deep := 1 << 16
	if !office.Same(chain(deep, 3), chain(deep, 3)) || office.Same(chain(deep, 3), chain(deep, 4)) || office.Same(chain(deep, 3), chain(deep+1, 3)) {
		t.Error("Same of deep orders")
	}
	double := func(n, most int) api.Fact {
		o := api.Order{Most: most}
		for range n {
			kids := []api.Order{o, o}
			o = api.Order{Kids: kids}
		}
		return fact(o)
	}
	if !office.Same(double(60, 3), double(60, 3)) || office.Same(double(60, 3), double(60, 4)) || office.Same(double(60, 3), double(59, 3)) {
		t.Error("Same of wide orders")
	}
	ring := func(n, most int) api.Fact {
		l := make([]api.Order, n)
		for k := range l {
			l[k] = api.Order{Kind: 5, Kids: l[(k+1)%n : (k+1)%n+1]}
		}
		l[n-1].Most = most
		return fact(l[0])
	}
	if !office.Same(ring(3, 0), ring(3, 0)) || !office.Same(ring(3, 2), ring(3, 2)) || office.Same(ring(3, 1), ring(3, 2)) || office.Same(ring(2, 1), ring(3, 1)) || !office.Same(ring(2, 0), ring(3, 0)) {
		t.Error("Same of orders without an end")
	}
	// What both share is equal, which tells nothing of the rest.
	shared := []api.Order{{Kind: 1}, {Kind: 2}}
	half := func(most int) api.Fact {
		part := api.Order{Kids: shared}
		return fact(api.Order{Kids: []api.Order{part, {Most: most}, part}})
	}
	if !office.Same(half(1), half(1)) || office.Same(half(1), half(2)) {
		t.Error("Same of orders that share nodes")
	}
	for _, f := range facts(ring(3, 0), ring(3, 2), double(60, 3), chain(deep, 3)) {
		if e := office.CheckFact(f); e != api.ErrArg {
			t.Error("CheckFact", e)
		}
		f.Kind = api.FaPolicy
		if e := office.CheckFact(f); e != api.ErrArg {
			t.Error("CheckFact", e)
		}
	}
}

// manyFacts returns n valid facts with different names; there are not more than 480.
func manyFacts(n int) []api.Fact {
	var l []api.Fact
	for k := range n {
		l = append(l, policyFact(k/api.MaxNo+1, k%api.MaxNo+1, k, api.Policy{Since: k % 20}))
	}
	return l
}

func TestP8_1Lists(t *testing.T) {
	l := richFacts()
	bad := rich(api.FaPolicy, func(f *api.Fact) { f.Policy.Bonus = -1 })
	other := rich(api.FaPolicy, func(f *api.Fact) { f.Policy.Bonus = 251 })
	badTwin := rich(api.FaPolicy, func(f *api.Fact) { f.Known = -1 })
	many := manyFacts(api.MaxFacts)
	for k, x := range []struct {
		l    []api.Fact
		want api.Errno
		at   int
	}{
		{nil, api.OK, -1}, {facts(), api.OK, -1}, {l, api.OK, -1}, {exampleFacts(), api.OK, -1}, {many, api.OK, -1},
		{append(slices.Clone(many), l[1]), api.ErrLimit, -1}, {make([]api.Fact, api.MaxFacts+1), api.ErrLimit, -1}, {make([]api.Fact, api.MaxFacts), api.ErrArg, 0},
		{slices.Repeat(l, 50), api.OK, -1}, {slices.Repeat(l, 51), api.ErrLimit, -1},
		{facts(bad), api.ErrArg, 0}, {facts(l[0], bad, l[1]), api.ErrArg, 1}, {append(slices.Clone(l), api.Fact{}), api.ErrArg, 6},
		{facts(l[3], other), api.ErrClash, 1}, {facts(other, l[3]), api.ErrClash, 1}, {facts(l[0], l[3], l[1], l[3], other, l[3]), api.ErrClash, 4},
		{facts(l[3], badTwin), api.ErrArg, 1}, {facts(l[3], other, bad), api.ErrClash, 1}, {facts(l[3], bad, other), api.ErrArg, 1}, {facts(bad, bad), api.ErrArg, 0},
		{facts(l[3], rich(api.FaWithdraw, func(f *api.Fact) { f.Office, f.No = l[3].Office, l[3].No })), api.ErrClash, 1},
		{facts(l[0], emptied(l[0]), l[1], emptied(l[1])), api.OK, -1},
	} {
		if e, at := office.CheckFacts(x.l); e != x.want || at != x.at {
			t.Errorf("CheckFacts: list %d: %d %d, not %d %d", k, e, at, x.want, x.at)
		}
	}
	// Each difference from a fact with the same name clashes.
	f := l[1]
	f.Dial.Order = sourced("gate then after 60 to 91 (each(mill, loft) or times 1 to 2 mill) within 5000")
	if e, at := office.CheckFacts(facts(l[1], f)); e != api.ErrClash || at != 1 {
		t.Error("CheckFacts", e, at)
	}
}
