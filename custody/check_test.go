package custody_test

import (
	"slices"
	"testing"

	"patrol/api"
	"patrol/custody"
)

func checked(t *testing.T, what string, c api.Custody, want api.Errno) {
	t.Helper()
	if e := custody.Check(c); e != want {
		t.Errorf("Check: %s: %d, not %d", what, e, want)
	}
}

func TestP6_1Sizes(t *testing.T) {
	checked(t, "the example", exampleBook(), api.OK)
	checked(t, "a key that is not consistent", brokenBook(), api.OK)
	checked(t, "all that there may be", fullBook(), api.OK)
	checked(t, "nothing", api.Custody{}, api.OK)
	checked(t, "no keys", with(func(c *api.Custody) { c.Keys, c.Entries = nil, nil }), api.OK)
	checked(t, "no persons", api.Custody{Keys: []int{1}, Entries: []api.Entry{lose(1, 1, 0, 0, 0), find(2, 1, 0, 0, 0)}}, api.OK)
	for _, gaps := range []int{0, 1, 2, api.MaxGaps} {
		checked(t, "gaps", with(func(c *api.Custody) { c.Gaps = gaps }), api.OK)
	}
	for _, gaps := range []int{-1, api.MaxGaps + 1, minInt, maxInt} {
		checked(t, "gaps", with(func(c *api.Custody) { c.Gaps = gaps }), api.ErrArg)
		checked(t, "gaps, and too many persons", api.Custody{Gaps: gaps, People: make([]api.Person, api.MaxPeople+1)}, api.ErrArg)
	}
	c := fullBook()
	c.People = slices.Insert(c.People, 0, person(1))
	checked(t, "too many persons", c, api.ErrLimit)
	c = fullBook()
	c.Keys = slices.Insert(c.Keys, 0, 1)
	checked(t, "too many keys", c, api.ErrLimit)
	c = fullBook()
	c.Entries = append(c.Entries, pass(1, c.Keys[0], 0, c.People[0].ID, 0, 0))
	checked(t, "too many entries", c, api.ErrLimit)
	c.People[0].ID, c.Keys[0], c.Entries[0].ID = 0, 0, 0
	checked(t, "too many entries, and a bad person", c, api.ErrLimit)
	checked(t, "too many keys, and a bad person", api.Custody{People: []api.Person{{}}, Keys: make([]int, api.MaxHeld+1)}, api.ErrLimit)
}

func TestP6_1People(t *testing.T) {
	checkPeople := func(want api.Errno, l ...api.Person) {
		t.Helper()
		checked(t, "persons", api.Custody{People: l}, want)
	}
	for _, id := range []int{1, 2, api.MaxID} {
		checkPeople(api.OK, person(id))
	}
	for _, id := range []int{0, -1, api.MaxID + 1, minInt, maxInt} {
		checkPeople(api.ErrArg, person(id))
	}
	many := func(n int) []api.Span {
		var l []api.Span
		for k := range n {
			l = append(l, span(k, k))
		}
		return l
	}
	for _, l := range [][]api.Span{nil, {}, spans(span(0, 0)), spans(span(0, api.MaxTime)), spans(span(api.MaxTime, api.MaxTime)), spans(span(0, 5), span(6, 6), span(8, 9)), many(api.MaxDuty)} {
		checkPeople(api.OK, person(5, l...))
	}
	for _, l := range [][]api.Span{spans(span(1, 0)), spans(span(-1, 5)), spans(span(0, api.MaxTime+1)), spans(span(minInt, maxInt)), spans(span(maxInt, minInt)), spans(span(0, 5), span(5, 6)), spans(span(3, 5), span(0, 1)), spans(span(0, 9), span(2, 3)), spans(span(0, 1), span(3, 4), span(4, 5)), spans(span(0, 1), span(3, 2)), spans(span(0, 1), span(3, api.MaxTime+1)), many(api.MaxDuty + 1)} {
		checkPeople(api.ErrArg, person(5, l...))
		checkPeople(api.ErrArg, person(4), person(5, l...))
		checkPeople(api.ErrArg, person(5), person(5, l...))
		checkPeople(api.ErrTwice, person(5), person(5), person(6, l...))
		checkPeople(api.ErrArg, person(5, l...), person(5))
	}
	checkPeople(api.OK, person(1), person(3), person(api.MaxID))
	checkPeople(api.ErrTwice, person(1), person(3), person(3))
	checkPeople(api.ErrTwice, person(3), person(1))
	checkPeople(api.ErrTwice, person(1), person(3), person(2), person(0))
	checkPeople(api.ErrArg, person(1), person(0), person(1))
}

func TestP6_1Keys(t *testing.T) {
	checkKeys := func(want api.Errno, l ...int) {
		t.Helper()
		checked(t, "keys", api.Custody{Keys: l}, want)
	}
	checkKeys(api.OK, 1, 2, api.MaxID)
	for _, key := range []int{0, -1, api.MaxID + 1, minInt, maxInt} {
		checkKeys(api.ErrArg, key)
		checkKeys(api.ErrArg, 5, key, 5)
		checkKeys(api.ErrTwice, 5, 5, key)
	}
	checkKeys(api.ErrTwice, 1, 3, 3)
	checkKeys(api.ErrTwice, 3, 2)
	checked(t, "a bad person, and a bad key", api.Custody{People: []api.Person{person(2), person(2)}, Keys: []int{0}}, api.ErrTwice)
	checked(t, "a bad key, and a bad entry", api.Custody{Keys: []int{2, 2}, Entries: []api.Entry{{}}}, api.ErrTwice)
	checked(t, "the ID of a person, and a key", api.Custody{Keys: []int{2}, People: []api.Person{person(2)}, Entries: []api.Entry{pass(2, 2, 0, 2, 0, 0)}}, api.OK)
}

func TestP6_1Entries(t *testing.T) {
	good := []api.Entry{
		pass(1, 7, 0, 1, 0, 0), pass(api.MaxID, 7, 1, 0, 0, api.MaxTime), pass(1, 8, 2, 1, api.MaxTime, api.MaxTime), copying(1, 7, 2, 3, 4), lose(1, 7, 0, 3, 4), lose(1, 7, 1, 3, 4), find(1, 7, 0, 3, 4), find(1, 7, 2, 3, 4),
	}
	bad := []api.Entry{
		{}, pass(0, 7, 0, 1, 0, 0), pass(-1, 7, 0, 1, 0, 0), pass(api.MaxID+1, 7, 0, 1, 0, 0), pass(minInt, 7, 0, 1, 0, 0), pass(maxInt, 7, 0, 1, 0, 0),
		pass(1, 0, 0, 1, 0, 0), pass(1, 6, 0, 1, 0, 0), pass(1, 9, 0, 1, 0, 0), pass(1, -7, 0, 1, 0, 0),
		pass(1, 7, 0, 1, 1, 0), pass(1, 7, 0, 1, -1, 0), pass(1, 7, 0, 1, 0, api.MaxTime+1), pass(1, 7, 0, 1, minInt, maxInt), pass(1, 7, 0, 1, maxInt, minInt),
		pass(1, 7, 0, 0, 0, 0), pass(1, 7, 1, 1, 0, 0), pass(1, 7, 3, 1, 0, 0), pass(1, 7, 1, 3, 0, 0), pass(1, 7, -1, 1, 0, 0), pass(1, 7, 1, -1, 0, 0), pass(1, 7, 7, 1, 0, 0),
		copying(1, 7, 0, 0, 0), copying(1, 7, 3, 0, 0), copying(1, 7, -1, 0, 0), {ID: 1, Key: 7, Kind: api.CuCopy, From: 1, To: 2}, {ID: 1, Key: 7, Kind: api.CuCopy, From: 1, To: 1}, {ID: 1, Key: 7, Kind: api.CuCopy, To: 1},
		lose(1, 7, -1, 0, 0), lose(1, 7, 3, 0, 0), {ID: 1, Key: 7, Kind: api.CuLose, From: 1, To: -1}, {ID: 1, Key: 7, Kind: api.CuLose, From: 1, To: 2}, {ID: 1, Key: 7, Kind: api.CuLose, To: 1},
		find(1, 7, -1, 0, 0), find(1, 7, 3, 0, 0), {ID: 1, Key: 7, Kind: api.CuFind, From: -1, To: 1}, {ID: 1, Key: 7, Kind: api.CuFind, From: 1, To: 2}, {ID: 1, Key: 7, Kind: api.CuFind, From: 1},
		{ID: 1, Key: 7, Kind: 0, From: 0, To: 1}, {ID: 1, Key: 7, Kind: 5, From: 0, To: 1}, {ID: 1, Key: 7, Kind: -1, From: 0, To: 1}, {ID: 1, Key: 7, Kind: maxInt, From: 0, To: 1},
	}
	book := func(l ...api.Entry) api.Custody {
		return api.Custody{People: []api.Person{person(1), person(2)}, Keys: []int{7, 8}, Entries: l}
	}
	for _, x := range good {
		checked(t, "a good entry", book(x), api.OK)
		checked(t, "an entry twice", book(pass(5, 7, 0, 1, 0, 0), x, x), api.ErrTwice)
		other := x
		other.Key = 15 - x.Key
		checked(t, "the ID twice, of two keys", book(x, other), api.ErrTwice)
	}
	for _, x := range bad {
		checked(t, "a bad entry", book(x), api.ErrArg)
		checked(t, "a good entry, and a bad one", book(good[0], x, good[0]), api.ErrArg)
		checked(t, "an entry twice, and a bad one", book(good[0], good[0], x), api.ErrTwice)
		again := x
		again.ID = good[0].ID
		if isArg := custody.Check(book(again)) == api.ErrArg; isArg {
			checked(t, "a bad entry with an ID that occurs", book(good[0], again), api.ErrArg)
		}
	}
}

func TestP6_1OfKey(t *testing.T) {
	c := api.Custody{People: []api.Person{person(1)}, Keys: []int{7, 8}}
	for k := range api.MaxOfKey {
		c.Entries = append(c.Entries, pass(2*k+1, 7, 0, 1, 0, 0), pass(2*k+2, 8, 0, 1, 0, 0))
	}
	more := func(l ...api.Entry) api.Custody {
		x := copyOf(c)
		x.Entries = append(x.Entries, l...)
		return x
	}
	checked(t, "as many of each key as there may be", c, api.OK)
	for _, key := range c.Keys {
		checked(t, "one more", more(pass(99, key, 0, 1, 0, 0)), api.ErrLimit)
		checked(t, "one more, and a bad one", more(pass(99, key, 0, 1, 0, 0), api.Entry{}), api.ErrLimit)
		checked(t, "one more that is bad", more(pass(99, key, 0, 1, 1, 0)), api.ErrArg)
		checked(t, "one more with an ID that occurs", more(pass(14, key, 0, 1, 0, 0)), api.ErrTwice)
		checked(t, "a bad one, and one more", more(api.Entry{}, pass(99, key, 0, 1, 0, 0)), api.ErrArg)
	}
}

// wrongArgs has an error for each function that can have one behind those of Check and of the key.
func wrongArgs() args {
	return args{key: 8, t: -1, id: 99, l: make([]api.Move, 21), s: span(1, 0), uses: make([]api.Use, api.MaxUses+1), p: [][]api.Move{make([]api.Move, 21)}}
}

// TestP6_1First checks that all functions return the error of Check before every other one.
func TestP6_1First(t *testing.T) {
	for _, c := range []api.Custody{
		{Gaps: -1}, {People: make([]api.Person, api.MaxPeople+1)}, with(func(c *api.Custody) { c.People[1].ID = 1 }), with(func(c *api.Custody) { c.Keys[0] = 0 }),
		with(func(c *api.Custody) { c.Keys = []int{7, 7} }), with(func(c *api.Custody) { c.Entries[3].At.Hi = 899 }), with(func(c *api.Custody) { c.Entries[3].ID = 1 }),
	} {
		e := custody.Check(c)
		if e == api.OK {
			t.Error("no error:", c)
		}
		for _, x := range []args{rightArgs(), wrongArgs()} {
			for name, o := range calls(c, x) {
				if o.e != e || !o.zero {
					t.Error(name, o, e)
				}
			}
		}
	}
	for name, o := range calls(exampleBook(), rightArgs()) {
		if o.e != api.OK && !(name == "Core" && o.e == api.ErrNone) {
			t.Error(name, o)
		}
	}
}

// TestP6_1Key checks that ErrNone for a key comes before every other error but that of Check.
func TestP6_1Key(t *testing.T) {
	for _, key := range []int{0, -1, 1, 6, 8, minInt, maxInt} {
		for _, x := range []args{rightArgs(), wrongArgs()} {
			x.key = key
			allFail(t, "no such key", calls(exampleBook(), x), api.ErrNone, ofKeys...)
			allFail(t, "no such key of another book", calls(brokenBook(), x), api.ErrNone, ofKeys...)
		}
	}
}
