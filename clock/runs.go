package clock

import (
	"iter"
	"slices"

	"patrol/api"
)

// maxMicro is the last exact place of a needle, in millionths of a unit.
const maxMicro = (api.MaxPos+1)*api.Million - 1

// moment says that a needle is, at a second, at an exact place in millionths of a unit.
type moment struct{ time, micro int }

// after returns the moment some seconds later, if the needle moves on at a rate.
func (m moment) after(secs, rate int) moment { return moment{m.time + secs, m.micro + secs*rate} }

// pos returns the position of the needle.
func (m moment) pos() int { return m.micro / api.Million }

// legs yields each leg of a run with the moment at which it begins.
func legs(x api.Run) iter.Seq2[moment, api.Leg] {
	return func(yield func(moment, api.Leg) bool) {
		m := moment{x.Start, x.Micro}
		for _, leg := range x.Legs {
			if !yield(m, leg) {
				return
			}
			m = m.after(leg.Secs, leg.Rate)
		}
	}
}

// end returns the moment at which a run ends.
func end(x api.Run) moment {
	last := moment{x.Start, x.Micro}
	for m, leg := range legs(x) {
		last = m.after(leg.Secs, leg.Rate)
	}
	return last
}

// isLeg reports whether a leg is valid.
func isLeg(l api.Leg) bool {
	moves := l.Rate >= api.MinRate && l.Rate <= api.MaxRate
	return l.Secs >= 1 && l.Secs <= api.MaxStop && (l.Rate == 0 || moves)
}

// CheckRun returns the error of a run.
func CheckRun(x api.Run) api.Errno {
	if len(x.Legs) > api.MaxLegs {
		return api.ErrLimit
	}
	if !isTime(x.Start) || x.Micro < 0 || x.Micro > maxMicro {
		return api.ErrArg
	}
	for _, l := range x.Legs {
		if !isLeg(l) {
			return api.ErrArg
		}
	}
	if last := end(x); !isTime(last.time) || last.micro > maxMicro {
		return api.ErrArg
	}
	return api.OK
}

// Needle returns the position of the needle of a run at a second.
func Needle(x api.Run, time int) (int, api.Errno) {
	if e := CheckRun(x); e != api.OK {
		return 0, e
	}
	last := end(x)
	if time < x.Start || time > last.time {
		return 0, api.ErrRange
	}
	for m, l := range legs(x) {
		if secs := time - m.time; secs < l.Secs {
			return m.after(secs, l.Rate).pos(), api.OK
		}
	}
	return last.pos(), api.OK
}

// Plays returns OK if a run can have been that of a session.
func Plays(s api.Session, x api.Run) api.Errno {
	if e := Check(api.Record{Session: s}); e != api.OK {
		return e
	}
	if e := CheckRun(x); e != api.OK {
		return e
	}
	first, last := moment{x.Start, x.Micro}, end(x)
	if !has(s.In, first.time) || !has(s.Out, last.time) || !has(s.Zero, first.pos()) || !has(s.End, last.pos()) || !keepsRate(s, x) || !keepsStops(s, x) {
		return api.ErrProof
	}
	return api.OK
}

// has reports whether an integer lies in a span.
func has(x api.Span, n int) bool { return x.Lo <= n && n <= x.Hi }

// keepsRate reports whether the needle of a run moves at rates of a session only.
func keepsRate(s api.Session, x api.Run) bool {
	for _, l := range x.Legs {
		if l.Rate != 0 && !has(s.Rate, l.Rate) {
			return false
		}
	}
	return true
}

// keepsStops reports whether the needle of a run stands at the stops of a session only, and at each one as long as it says.
func keepsStops(s api.Session, x api.Run) bool {
	stood := make([]int, len(s.Stops))
	for m, l := range legs(x) {
		if l.Rate != 0 {
			continue
		}
		k := slices.IndexFunc(s.Stops, func(stop api.Stop) bool { return stop.At == m.pos() })
		if k < 0 {
			return false
		}
		stood[k] += l.Secs
	}
	for k, stop := range s.Stops {
		if !has(stop.Secs, stood[k]) {
			return false
		}
	}
	return true
}
