package round

import (
	"slices"

	"patrol/api"
)

// proof is bounds with the raises that they come from.
type proof struct {
	bounds
	raises []api.Raise
}

// raise raises a bound as bounds do, and notes it.
func (p *proof) raise(k constraint) bool {
	if !p.bounds.raise(k) {
		return false
	}
	p.raises = append(p.raises, api.Raise{Visit: k.visit(), By: reason(k), To: p.bounds[k.visit()]})
	return true
}

// reason returns what a refutation calls a constraint.
func reason(k constraint) int {
	switch x := k.(type) {
	case byClock:
		return api.ByClock
	case byStart:
		return api.ByStart
	case byGap:
		return x.other
	}
	return api.ByWalk
}

// refute returns a refutation of a sequence that is accepted; false if there is none.
func (t trial) refute(q sequence) ([]api.Raise, bool) {
	if !q.isConsistent() {
		return nil, true
	}
	// Each raise but the first one of a visit is by at least 1, from its least time to one more than its greatest one: so there are not more than a refutation can have.
	p := proof{bounds: make(bounds, len(q.reads))}
	if t.system(q).settle(p.bounds, p.raise) {
		return nil, false
	}
	return p.raises, true
}

// given returns the constraint that a raise calls on; false if this reason cannot be given for its visit, at these bounds.
func (t trial) given(q sequence, r api.Raise, b bounds) (constraint, bool) {
	n := len(q.reads)
	switch {
	case !isIndex(r.Visit, n):
		return nil, false
	case r.By == api.ByClock:
		return byClock{r.Visit, q.span(r.Visit).Lo}, true
	case r.By == api.ByStart && r.Visit == 0, r.By == api.ByWalk && r.Visit > 0 && isTime(b[r.Visit-1]):
		return t.comeTo(q, r.Visit), true
	case isIndex(r.By, n) && r.By != r.Visit:
		return byGap{r.Visit, r.By, q.gap(r.Visit, r.By)}, true
	}
	return nil, false
}

// accepts reports whether a refutation of a sequence is accepted.
func (t trial) accepts(q sequence, p []api.Raise) bool {
	if !q.isConsistent() {
		return len(p) == 0
	}
	if len(p) > api.MaxRaises {
		return false
	}
	b := make(bounds, len(q.reads))
	for _, r := range p {
		k, is := t.given(q, r, b)
		if !is || r.To > k.least(b) {
			return false
		}
		b[r.Visit] = max(b[r.Visit], r.To)
	}
	for visit, least := range b {
		if least > q.span(visit).Hi {
			return true
		}
	}
	return false
}

// Refute returns a proof that a sequence has no reading.
func Refute(c api.Case, l []api.Read) ([]api.Raise, api.Errno) {
	t, q, e := openFor(c, l)
	if e != api.OK {
		return nil, e
	}
	p, is := t.refute(q)
	if !is {
		return nil, api.ErrNone
	}
	return p, api.OK
}

// CheckRefute checks such a proof.
func CheckRefute(c api.Case, l []api.Read, p []api.Raise) api.Errno {
	t, q, e := openFor(c, l)
	if e != api.OK {
		return e
	}
	if !t.accepts(q, p) {
		return api.ErrProof
	}
	return api.OK
}

// openAt returns the trial of a case whose sequences are those that have a visit to a station.
func openAt(c api.Case, station int) (trial, api.Errno) {
	t, e := open(c, isIndex(station, len(c.Stations)))
	if e != api.OK {
		return trial{}, e
	}
	t.sequences = slices.DeleteFunc(t.sequences, func(q sequence) bool { return !q.has(station) })
	return t, api.OK
}

// Miss returns a proof that no reading has a station.
func Miss(c api.Case, station int) ([][]api.Raise, api.Errno) {
	t, e := openAt(c, station)
	if e != api.OK {
		return nil, e
	}
	var l [][]api.Raise
	for _, q := range t.sequences {
		p, is := t.refute(q)
		if !is {
			return nil, api.ErrNone
		}
		l = append(l, p)
	}
	return l, api.OK
}

// CheckMiss checks such a proof.
func CheckMiss(c api.Case, station int, p [][]api.Raise) api.Errno {
	t, e := openAt(c, station)
	if e != api.OK {
		return e
	}
	if len(p) != len(t.sequences) {
		return api.ErrProof
	}
	for k, q := range t.sequences {
		if !t.accepts(q, p[k]) {
			return api.ErrProof
		}
	}
	return api.OK
}
