package tribunal

import (
	"slices"

	"patrol/api"
	"patrol/order"
	"patrol/round"
)

// isSameReading reports whether two readings are equal.
func isSameReading(a, b api.Reading) bool {
	return slices.Equal(a.Reads, b.Reads) && slices.Equal(a.Times, b.Times)
}

// Same reports whether two replies are equal.
func Same(a, b api.Reply) bool {
	return a.Errno == b.Errno && a.Yes == b.Yes && a.Judged == b.Judged && a.Span == b.Span && a.Pence == b.Pence &&
		slices.Equal(a.List, b.List) && slices.Equal(a.Postings, b.Postings) &&
		slices.EqualFunc(a.Readings, b.Readings, isSameReading) &&
		slices.EqualFunc(a.Proofs, b.Proofs, slices.Equal[[]api.Raise])
}

// isReading reports whether something is a reading of a case.
func isReading(c api.Case, r api.Reading) bool { return round.CheckReading(c, r) == api.OK }

// fulfils reports whether a reading of a case fulfils the order.
func fulfils(c api.Case, r api.Reading) bool {
	var l []api.Visit
	for k, x := range r.Reads {
		l = append(l, api.Visit{Name: c.Stations[x.Station].Name, Time: r.Times[k]})
	}
	is, _ := order.Matches(c.Order, l)
	return is
}

// witness reports whether some readings of a case prove a verdict.
func witness(c api.Case, kind int, l []api.Reading) bool {
	wanted := witnesses(kind)
	return slices.EqualFunc(l, wanted, func(r api.Reading, right bool) bool {
		return isReading(c, r) && fulfils(c, r) == right
	})
}

// exclude reports whether some refutations of sequences of a case prove a verdict.
func exclude(c api.Case, kind int, l [][]api.Raise) bool {
	return slices.EqualFunc(l, excluded(c, kind), func(p []api.Raise, reads []api.Read) bool {
		return round.CheckRefute(unordered(c), reads, p) == api.OK
	})
}

// acceptsVerdict reports whether a reply answers what follows for a dial.
func (h hearing) acceptsVerdict(r api.Reply) bool {
	j := h.judged()
	if !Same(r, api.Reply{Judged: j, Readings: r.Readings, Proofs: r.Proofs}) {
		return false
	}
	if j.State != api.DiJudged {
		return len(r.Readings)+len(r.Proofs) == 0
	}
	c := h.dialCase()
	return witness(c, j.Kind, r.Readings) && exclude(c, j.Kind, r.Proofs)
}

// acceptsMissed reports whether a reply answers whether no reading has a station.
func (h hearing) acceptsMissed(r api.Reply) bool {
	c, station := h.station()
	if r.Yes {
		return Same(r, api.Reply{Yes: true, Proofs: r.Proofs}) && round.CheckMiss(c, station, r.Proofs) == api.OK
	}
	if len(r.Readings) != 1 || !Same(r, api.Reply{Readings: r.Readings}) {
		return false
	}
	return isReading(c, r.Readings[0]) && has(r.Readings[0].Reads, station)
}

// checks returns how replies to those questions are checked whose answers have proofs, for each kind of them.
func (h hearing) checks() map[int]func(r api.Reply) bool {
	return map[int]func(r api.Reply) bool{
		api.QuVerdict: h.acceptsVerdict,
		api.QuMissed:  h.acceptsMissed,
	}
}

// accepts reports whether a reply can be the answer to a question.
func accepts(l []api.Fact, q api.Question, r api.Reply) (is bool) {
	defer func() {
		if e := refused(recover()); e != api.OK {
			is = Same(r, api.Reply{Errno: e})
		}
	}()
	h := open(l, q)
	if check, proved := h.checks()[q.Kind]; proved {
		return check(r)
	}
	return Same(r, h.answer())
}

// Accept returns OK if a reply can be the answer to a question by a list of facts.
func Accept(l []api.Fact, q api.Question, r api.Reply) api.Errno {
	if !accepts(l, q, r) {
		return api.ErrProof
	}
	return api.OK
}

// Audit returns the index of the first reply that is not accepted.
func Audit(l []api.Fact, qs []api.Question, rs []api.Reply) (int, api.Errno) {
	if len(qs) > api.MaxQuestions {
		return 0, api.ErrLimit
	}
	if len(rs) != len(qs) {
		return 0, api.ErrArg
	}
	for k, q := range qs {
		if !accepts(l, q, rs[k]) {
			return k, api.OK
		}
	}
	return -1, api.OK
}
