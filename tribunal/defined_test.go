package tribunal_test

import (
	"slices"

	"patrol/api"
	"patrol/custody"
	"patrol/house"
	"patrol/office"
	"patrol/order"
	"patrol/rates"
	"patrol/round"
)

// The functions of this file are the sentences of the chapter, one by one.

func definedName(name string) bool {
	for _, b := range []byte(name) {
		if !(b >= 'a' && b <= 'z' || b >= '0' && b <= '9') {
			return false
		}
	}
	return len(name) >= 1 && len(name) <= api.MaxName
}

// definedQuestion reports whether a question is valid.
func definedQuestion(q api.Question) bool {
	isDial := q.Dial >= 1 && q.Dial <= api.MaxID
	isOfTimes := 0 <= q.Span.Lo && q.Span.Lo <= q.Span.Hi && q.Span.Hi <= api.MaxTime
	isOfNights := 0 <= q.Span.Lo && q.Span.Lo <= q.Span.Hi && q.Span.Hi <= api.MaxNight && q.Span.Hi-q.Span.Lo < api.MaxNights
	rest := q
	rest.Kind, rest.Known = 0, 0
	right := false
	switch q.Kind {
	case api.QuVerdict:
		right = isDial
		rest.Dial = 0
	case api.QuMissed, api.QuWhen, api.QuWho:
		right = isDial && definedName(q.Place)
		rest.Dial, rest.Place = 0, ""
	case api.QuPlaced:
		right = isDial && definedName(q.Place) && isOfTimes
		rest.Dial, rest.Place, rest.Span = 0, "", api.Span{}
	case api.QuBalance:
		right = isOfNights && (q.Account == -1 || q.Account == -2 || q.Account >= 1 && q.Account <= api.MaxID)
		rest.Account, rest.Span = 0, api.Span{}
	case api.QuAmend:
		right = isOfNights && q.Before >= 0 && q.Before <= api.MaxTime
		rest.Before, rest.Span = 0, api.Span{}
	case api.QuRests:
		right = q.Name.Office >= 1 && q.Name.Office <= 8 && q.Name.No >= 1 && q.Name.No <= 60
		rest.Name = api.Name{}
	}
	return right && rest == (api.Question{}) && q.Known >= 0 && q.Known <= api.MaxTime
}

// failed is the answer with the first one of some errors; false if there is none.
func failed(l ...api.Errno) (api.Reply, bool) {
	for _, e := range l {
		if e != api.OK {
			return api.Reply{Errno: e}, true
		}
	}
	return api.Reply{}, false
}

// stationOf returns the index of the station with a name, and ErrNone if there is none.
func stationOf(c api.Case, name string) (int, api.Errno) {
	for k, x := range c.Stations {
		if x.Name == name {
			return k, api.OK
		}
	}
	return 0, api.ErrNone
}

// defined returns the answer to a question, without readings and proofs.
func defined(l []api.Fact, q api.Question) api.Reply {
	if !definedQuestion(q) {
		return api.Reply{Errno: api.ErrArg}
	}
	if e, _ := office.CheckFacts(l); e != api.OK {
		return api.Reply{Errno: e}
	}
	switch q.Kind {
	case api.QuVerdict:
		j, e := office.Judge(l, q.Known, q.Dial)
		return api.Reply{Errno: e, Judged: j}
	case api.QuMissed, api.QuWhen, api.QuWho:
		return definedStation(l, q)
	case api.QuPlaced:
		c, e := office.Case(l, q.Known, q.Dial)
		room, f := house.Find(c.House, q.Place)
		yes, g := round.Placed(c, room, q.Span)
		if r, is := failed(e, f, g); is {
			return r
		}
		return api.Reply{Yes: yes}
	case api.QuBalance:
		ledger, e := office.Ledger(l, q.Known, q.Span)
		pence, f := rates.Balance(ledger, q.Account)
		if r, is := failed(e, f); is {
			return r
		}
		return api.Reply{Pence: pence}
	case api.QuAmend:
		postings, e := office.Amend(l, q.Before, q.Known, q.Span)
		return api.Reply{Errno: e, Postings: postings}
	}
	list, e := office.Rests(l, q.Known, q.Name)
	return api.Reply{Errno: e, List: list}
}

// definedStation returns the answer to a question about a station, without readings and proofs.
func definedStation(l []api.Fact, q api.Question) api.Reply {
	c, e := office.Case(l, q.Known, q.Dial)
	if r, is := failed(e); is {
		return r
	}
	station, e := stationOf(c, q.Place)
	if r, is := failed(e, round.Measure(c)); is {
		return r
	}
	none, e := round.Missed(c)
	if q.Kind == api.QuMissed {
		return api.Reply{Errno: e, Yes: slices.Contains(none, station)}
	}
	x, e := round.When(c, station)
	if q.Kind == api.QuWhen || e != api.OK {
		return api.Reply{Errno: e, Span: x}
	}
	book, e := office.Book(l, q.Known)
	men, f := custody.Hands(book, c.Stations[station].Key, x)
	if r, is := failed(e, f); is {
		return r
	}
	return api.Reply{List: men}
}

// isFulfilled reports whether a reading of a case fulfils the order.
func isFulfilled(c api.Case, r api.Reading) bool {
	var l []api.Visit
	for k, x := range r.Reads {
		l = append(l, api.Visit{Name: c.Stations[x.Station].Name, Time: r.Times[k]})
	}
	is, e := order.Matches(c.Order, l)
	if e != api.OK {
		panic("a reading whose times fall")
	}
	return is
}

// isWitness reports whether something is a reading of a case, and fulfils the order or not.
func isWitness(c api.Case, r api.Reading, right bool) bool {
	return round.CheckReading(c, r) == api.OK && isFulfilled(c, r) == right
}

// isVoid reports whether proofs are refutations of all sequences of a case.
func isVoid(c api.Case, proofs [][]api.Raise) bool {
	all, _ := round.Sequences(c)
	if len(all) != len(proofs) {
		return false
	}
	for k, p := range proofs {
		if round.CheckRefute(c, all[k], p) != api.OK {
			return false
		}
	}
	return true
}

// proves reports whether the readings and proofs of a reply are such as the chapter asks for.
func proves(l []api.Fact, q api.Question, want, r api.Reply) bool {
	c, _ := office.Case(l, q.Known, q.Dial)
	x, p := r.Readings, r.Proofs
	nothing := len(x) == 0 && len(p) == 0
	if want.Errno != api.OK {
		return nothing
	}
	switch {
	case q.Kind == api.QuVerdict && want.Judged.Kind == api.VeCertified:
		return len(x) == 1 && isWitness(c, x[0], true) && len(p) == 0
	case q.Kind == api.QuVerdict && want.Judged.Kind == api.VeFailed:
		return len(x) == 1 && isWitness(c, x[0], false) && len(p) == 0
	case q.Kind == api.QuVerdict && want.Judged.Kind == api.VeDoubtful:
		return len(x) == 2 && isWitness(c, x[0], true) && isWitness(c, x[1], false) && len(p) == 0
	case q.Kind == api.QuVerdict && want.Judged.Kind == api.VeVoid:
		return len(x) == 0 && isVoid(c, p)
	case q.Kind == api.QuMissed:
		station, _ := stationOf(c, q.Place)
		if want.Yes {
			return len(x) == 0 && round.CheckMiss(c, station, p) == api.OK
		}
		return len(x) == 1 && round.CheckReading(c, x[0]) == api.OK && hasStation(x[0].Reads, station) && len(p) == 0
	}
	return nothing
}

// isAnswer reports whether a reply can be the answer to a question.
func isAnswer(l []api.Fact, q api.Question, r api.Reply) bool {
	want := defined(l, q)
	plain := r
	plain.Readings, plain.Proofs = nil, nil
	return isEqual(plain, want) && proves(l, q, want, r)
}
