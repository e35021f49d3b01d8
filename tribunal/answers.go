package tribunal

import (
	"slices"

	"patrol/api"
	"patrol/custody"
	"patrol/house"
	"patrol/office"
	"patrol/rates"
	"patrol/round"
)

// hearing is a question that is being answered by facts. Its methods panic if there is an error on the way.
type hearing struct {
	api.Question
	facts []api.Fact
}

// refusal is what a hearing panics with.
type refusal struct{ errno api.Errno }

// need panics if there is an error.
func need(e api.Errno) {
	if e != api.OK {
		panic(refusal{e})
	}
}

// must returns a result; it panics if there is an error.
func must[T any](x T, e api.Errno) T {
	need(e)
	return x
}

// refused returns the error of what a hearing panicked with, if it did.
func refused(thrown any) api.Errno {
	if thrown == nil {
		return api.OK
	}
	x, own := thrown.(refusal)
	if !own {
		panic(thrown)
	}
	return x.errno
}

// open returns the hearing of a question.
func open(l []api.Fact, q api.Question) hearing {
	need(CheckQuestion(q))
	e, _ := office.CheckFacts(l)
	need(e)
	return hearing{q, l}
}

// answers returns how the questions of each kind are answered.
func (h hearing) answers() map[int]func() api.Reply {
	return map[int]func() api.Reply{
		api.QuVerdict: h.verdict,
		api.QuMissed:  h.missed,
		api.QuWhen:    h.when,
		api.QuWho:     h.who,
		api.QuPlaced:  h.placed,
		api.QuBalance: h.balance,
		api.QuAmend:   h.amend,
		api.QuRests:   h.rests,
	}
}

// answer returns the answer.
func (h hearing) answer() api.Reply { return h.answers()[h.Kind]() }

// Answer returns the answer to a question by a list of facts.
func Answer(l []api.Fact, q api.Question) (r api.Reply) {
	defer func() {
		if e := refused(recover()); e != api.OK {
			r = api.Reply{Errno: e}
		}
	}()
	return open(l, q).answer()
}

// dialCase returns the case of the dial.
func (h hearing) dialCase() api.Case { return must(office.Case(h.facts, h.Known, h.Dial)) }

// station returns the case of the dial, which is measured, and the index of the station.
func (h hearing) station() (api.Case, int) {
	c := h.dialCase()
	station := slices.IndexFunc(c.Stations, func(x api.Station) bool { return x.Name == h.Place })
	if station < 0 {
		need(api.ErrNone)
	}
	need(round.Measure(c))
	return c, station
}

// judged returns what follows for the dial.
func (h hearing) judged() api.Judged { return must(office.Judge(h.facts, h.Known, h.Dial)) }

// witnesses tells of each reading that proves a verdict whether it fulfils the order.
func witnesses(kind int) []bool {
	switch kind {
	case api.VeCertified:
		return []bool{true}
	case api.VeDoubtful:
		return []bool{true, false}
	case api.VeFailed:
		return []bool{false}
	}
	return nil
}

// excluded returns the sequences whose refutations prove a verdict.
func excluded(c api.Case, kind int) [][]api.Read {
	if kind != api.VeVoid {
		return nil
	}
	return must(round.Sequences(c))
}

// unordered returns a case that has the same sequences, timings and refutations, but an order of which little follows. Package round works out the demands of the order whenever it is asked about a sequence, and that takes most of its time.
func unordered(c api.Case) api.Case {
	c.Order = api.Order{Kind: api.OrVisit, Names: []string{"a"}}
	return c
}

// verdict answers what follows for a dial.
func (h hearing) verdict() api.Reply {
	j := h.judged()
	r := api.Reply{Judged: j}
	if j.State != api.DiJudged {
		return r
	}
	c := h.dialCase()
	for _, right := range witnesses(j.Kind) {
		find := round.Other
		if right {
			find = round.Some
		}
		r.Readings = append(r.Readings, must(find(c)))
	}
	for _, l := range excluded(c, j.Kind) {
		r.Proofs = append(r.Proofs, must(round.Refute(unordered(c), l)))
	}
	return r
}

// has reports whether a visit of a sequence is to a station.
func has(l []api.Read, station int) bool {
	return slices.ContainsFunc(l, func(x api.Read) bool { return x.Station == station })
}

// readingWith returns a reading that has a station; it panics if there is none.
func readingWith(c api.Case, station int) api.Reading {
	for _, l := range must(round.Sequences(c)) {
		if !has(l, station) {
			continue
		}
		if times, e := round.First(unordered(c), l); e == api.OK {
			return api.Reading{Reads: l, Times: times}
		}
	}
	panic(refusal{api.ErrNone})
}

// missed answers whether no reading has a station.
func (h hearing) missed() api.Reply {
	c, station := h.station()
	if slices.Contains(must(round.Missed(c)), station) {
		return api.Reply{Yes: true, Proofs: must(round.Miss(c, station))}
	}
	return api.Reply{Readings: []api.Reading{readingWith(c, station)}}
}

// visited returns the case of the dial, the index of the station, and the span of the visits to it.
func (h hearing) visited() (api.Case, int, api.Span) {
	c, station := h.station()
	return c, station, must(round.When(c, station))
}

// when answers when a station can have been visited.
func (h hearing) when() api.Reply {
	_, _, x := h.visited()
	return api.Reply{Span: x}
}

// who answers who can have had the key of a station in hand.
func (h hearing) who() api.Reply {
	c, station, x := h.visited()
	book := must(office.Book(h.facts, h.Known))
	return api.Reply{List: must(custody.Hands(book, c.Stations[station].Key, x))}
}

// placed answers whether the watchman can have been in a room.
func (h hearing) placed() api.Reply {
	c := h.dialCase()
	room := must(house.Find(c.House, h.Place))
	return api.Reply{Yes: must(round.Placed(c, room, h.Span))}
}

// balance answers what the balance of an account is.
func (h hearing) balance() api.Reply {
	l := must(office.Ledger(h.facts, h.Known, h.Span))
	return api.Reply{Pence: must(rates.Balance(l, h.Account))}
}

// amend answers what corrects the ledger.
func (h hearing) amend() api.Reply {
	return api.Reply{Postings: must(office.Amend(h.facts, h.Before, h.Known, h.Span))}
}

// rests answers which dials rest on a fact.
func (h hearing) rests() api.Reply {
	return api.Reply{List: must(office.Rests(h.facts, h.Known, h.Name))}
}
