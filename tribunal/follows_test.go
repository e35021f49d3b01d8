package tribunal_test

import (
	"slices"
	"testing"

	"patrol/api"
	"patrol/clock"
	"patrol/custody"
	"patrol/office"
	"patrol/rates"
	"patrol/round"
	"patrol/tribunal"
)

// later returns facts that become known behind a time, and do not clash with others.
func (c *chance) later(known int) []api.Fact {
	var l []api.Fact
	for k := range c.n(8) {
		f := c.fact(name(7, 40+k), c.names(4))
		f.Known = known + c.from(1, 9)
		l = append(l, f)
	}
	return l
}

func TestP9_11(t *testing.T) {
	right := 0
	tries(911, 80, func(c *chance, l []api.Fact, q api.Question) {
		if c.n(10) == 0 {
			q = c.wild()
		}
		r := tribunal.Answer(l, q)
		known := min(max(q.Known, q.Before, 0), 99)
		early := slices.DeleteFunc(slices.Clone(l), func(f api.Fact) bool { return f.Known > known })
		for _, other := range [][]api.Fact{l, c.repeated(l), with(l, c.later(known)...), shuffled(c, with(l, c.later(known)...)), early, with(early, c.later(known)...)} {
			accepts(t, other, q, r, true)
			if q.Kind != api.QuVerdict && q.Kind != api.QuMissed && !tribunal.Same(tribunal.Answer(other, q), r) {
				t.Error("another answer", q, r)
			}
		}
		if r.Errno == api.OK {
			right++
		}
	})
	if right < 200 {
		t.Error("not an even test:", right)
	}
}

// isSmall reports whether all readings of a case can be tried.
func isSmall(c api.Case) bool {
	sequences, e := round.Sequences(c)
	for _, l := range sequences {
		record, _ := round.Record(c, l)
		spans, _ := clock.Spans(record)
		n := 1
		for _, x := range spans {
			n = min(n*(x.Hi-x.Lo+1), 10000)
		}
		if n > 300 {
			return false
		}
	}
	return e == api.OK && len(sequences) <= 6
}

// agrees checks that what was accepted is true of all readings of a case; it reports whether it says something of them.
func agrees(t *testing.T, q api.Question, r api.Reply, c api.Case, all []api.Reading) bool {
	t.Helper()
	station, _ := stationOf(c, q.Place)
	for _, x := range all {
		right := isFulfilled(c, x)
		wrong := q.Kind == api.QuVerdict && (r.Judged.Kind == api.VeVoid || r.Judged.Kind == api.VeCertified && !right || r.Judged.Kind == api.VeFailed && right)
		wrong = wrong || q.Kind == api.QuMissed && r.Yes && hasStation(x.Reads, station)
		for k, y := range x.Reads {
			wrong = wrong || q.Kind == api.QuWhen && y.Station == station && !has(r.Span, x.Times[k])
		}
		if wrong {
			t.Error("a reading", q, r, x)
		}
	}
	if q.Kind == api.QuMissed && !r.Yes && !hasStation(r.Readings[0].Reads, station) {
		t.Error("the reading of a reply that says no", q, r)
	}
	return r.Errno == api.OK && r.Judged.State <= api.DiJudged
}

// single returns facts about the dial 1, which is often judged.
func (c *chance) single() []api.Fact {
	s, d := c.setting(), c.dial()
	s.Since, d.No, d.Start = 0, 1, c.pick(0, 0, 0, 1, 2)
	l := facts(settingFact(1, 1, 0, s), dialFact(1, 2, 0, d), lookFact(1, 3, 0, 1, 1, exampleMarks()...))
	if c.n(2) == 0 {
		l = append(l, lookFact(1, 4, 0, 1, 2, one(c, secondMarks(), loftMarks())...))
	}
	return l
}

// TestP9_12 looks at all readings of small cases.
func TestP9_12(t *testing.T) {
	told := map[int]int{}
	kinds := map[int]int{}
	tried := 0
	c := chance(912)
	for range 100 {
		l := c.single()
		x, e := office.Case(l, 5, 1)
		if e != api.OK || !isSmall(x) {
			continue
		}
		all := readings(x)
		tried += len(all)
		place := one(&c, "gate", "mill", "loft")
		for _, q := range []api.Question{verdict(5, 1), missed(5, 1, place), when(5, 1, place)} {
			r := tribunal.Answer(l, q)
			accepts(t, l, q, r, true)
			if r.Errno != api.OK {
				continue
			}
			kinds[r.Judged.Kind]++
			for _, y := range append(others(r), r) {
				if tribunal.Accept(l, q, y) == api.OK && agrees(t, q, y, x, all) {
					told[q.Kind]++
				}
			}
		}
	}
	if tried < 600 || min(told[api.QuVerdict], told[api.QuMissed], told[api.QuWhen]) < 20 || min(kinds[1], kinds[2], kinds[3], kinds[4]) < 4 {
		t.Error("not an even test:", told, kinds, tried)
	}
}

// history returns a list of moves of a key that can be a history.
func (c *chance) history(b api.Custody, key int) []api.Move {
	var l []api.Move
	for _, x := range b.Entries {
		if x.Key == key {
			l = append(l, api.Move{Entry: x.ID, Time: c.pick(x.At.Lo, x.At.Hi, c.from(x.At.Lo, x.At.Hi))})
		}
	}
	for range c.n(b.Gaps + 1) {
		l = append(l, api.Move{To: c.pick(api.Board, 3, 9), Time: c.from(30900, 31300)})
	}
	l = shuffled(c, l)
	slices.SortStableFunc(l, func(x, y api.Move) int { return x.Time - y.Time })
	return l
}

// TestP9_12Who compares who is told with histories of the key.
func TestP9_12Who(t *testing.T) {
	held, told := 0, 0
	c := chance(9120)
	all := map[int][]api.Reading{}
	for _, known := range []int{60000, 70000} {
		x, _ := office.Case(exampleFacts(), known, 7)
		all[known] = readings(x)
	}
	for range 400 {
		l := with(exampleFacts(), custodyFact(4, 2, 1, c.custody()))
		place := one(&c, "mill", "loft")
		q := who(c.pick(60000, 70000), 7, place)
		r := tribunal.Answer(l, q)
		accepts(t, l, q, r, true)
		if r.Errno != api.OK {
			continue
		}
		x, _ := office.Case(l, q.Known, 7)
		station, _ := stationOf(x, place)
		key := x.Stations[station].Key
		b := l[5].Custody
		var times []int
		for _, y := range all[q.Known] {
			for k, z := range y.Reads {
				if z.Station == station && !slices.Contains(times, y.Times[k]) {
					times = append(times, y.Times[k])
				}
			}
		}
		told += len(r.List)
		for range 20 {
			h := c.history(b, key)
			at := times[c.n(len(times))]
			holder, copiers, e := custody.Held(b, key, h, at)
			if e != api.OK {
				continue
			}
			for _, man := range b.People {
				onDuty := slices.ContainsFunc(man.Duty, func(x api.Span) bool { return has(x, at) })
				if onDuty && (man.ID == holder || slices.Contains(copiers, man.ID)) {
					held++
					if !slices.Contains(r.List, man.ID) {
						t.Error("a man who had the key", q, r, man, h, at)
					}
				}
			}
		}
	}
	if held < 300 || told < 100 {
		t.Error("not an even test:", held, told)
	}
}

// script returns acts of which none is a crash.
func (c *chance) script(offices, n int) []api.Act {
	var l []api.Act
	for k := range n {
		a := c.act(offices, 5, 3+k/10)
		if a.Kind != api.AcCrash {
			l = append(l, a)
		}
	}
	return l
}

// exchange lets each office send to each other one, and delivers all letters, in any order; some of them twice.
func exchange(t *testing.T, c *chance, x *trial) {
	t.Helper()
	for from := range x.held {
		for to := range x.held {
			if len(x.post) >= api.MaxPost-1 {
				x.does(t, api.OK, deliver(c.n(len(x.post))))
			}
			if from != to {
				x.does(t, api.OK, send(from+1, to+1))
			}
			if c.n(4) == 0 && len(x.post) > 0 {
				x.does(t, api.OK, double(c.n(len(x.post))))
			}
		}
	}
	for len(x.post) > 0 {
		x.does(t, api.OK, deliver(c.n(len(x.post))))
	}
}

func TestP9_13(t *testing.T) {
	c := chance(913)
	held := 0
	for range 25 {
		x := newTrial(t, c.from(2, 5))
		for _, a := range c.script(len(x.held), 70) {
			x.do(t, a)
		}
		exchange(t, &c, x)
		all, e := x.Facts(1)
		held += len(all)
		for k := range x.held {
			got, f := x.Facts(k + 1)
			same(t, "the facts of another office", got, max(e, f), all)
		}
		for kind := api.QuVerdict; kind <= api.QuRests; kind++ {
			q := c.question(kind)
			rs, e := x.Ask(q)
			if e != api.OK || len(rs) != len(x.held) {
				t.Error("Ask", e)
			}
			for _, r := range rs {
				for k := range x.held {
					l, _ := x.Facts(k + 1)
					accepts(t, l, q, r, true)
				}
			}
		}
	}
	if held < 250 {
		t.Error("not an even test:", held)
	}
}

// TestP9_14 keeps all facts that were ever written, and compares the offices with these.
func TestP9_14(t *testing.T) {
	c := chance(914)
	crashes, clashes := 0, 0
	for range 40 {
		n := c.from(2, 4)
		x, e := tribunal.New(n)
		if e != api.OK {
			t.Fatal("New", e)
		}
		wrote := map[string]bool{}
		for k := range 120 {
			a := c.act(n, len(x.Post()), 3+k/10)
			if a.Kind == api.AcAsk {
				a = crash(c.from(1, n), c.pick(0, 1, 50))
			}
			was := map[int][]api.Fact{}
			for id := range n {
				was[id], _ = x.Facts(id + 1)
			}
			_, e := x.Do(a)
			if a.Kind == api.AcWrite && e == api.OK {
				l, _ := x.Facts(a.Office)
				for _, f := range l {
					text, _ := office.Encode(f)
					if f.Office == a.Office {
						wrote[text] = true
					}
				}
			}
			if e == api.ErrClash {
				clashes++
			}
			for id := range n {
				now, _ := x.Facts(id + 1)
				names := map[api.Name]bool{}
				for _, f := range now {
					text, _ := office.Encode(f)
					if !wrote[text] || names[nameOf(f)] {
						t.Error("a fact that nobody wrote, or twice", text)
					}
					names[nameOf(f)] = true
				}
				lost := slices.DeleteFunc(was[id], func(f api.Fact) bool { return names[nameOf(f)] })
				torn := a.Kind == api.AcCrash && a.Office == id+1 && a.N > 0 && e == api.OK
				if len(lost) > 1 || len(lost) == 1 && !torn {
					t.Error("lost facts", lost, a)
				}
				crashes += len(lost)
			}
		}
	}
	if crashes < 200 || clashes < 20 {
		t.Error("not an even test:", crashes, clashes)
	}
}

func TestP9_15(t *testing.T) {
	amended := 0
	tries(915, 200, func(c *chance, l []api.Fact, q api.Question) {
		if q.Kind != api.QuAmend {
			return
		}
		r := tribunal.Answer(l, q)
		amended += len(r.Postings)
		for _, account := range []int{api.AcHouse, api.AcInsurer, 3, 4, 9, 77} {
			before := tribunal.Answer(l, balance(q.Before, account, q.Span.Lo, q.Span.Hi))
			now := tribunal.Answer(l, balance(q.Known, account, q.Span.Lo, q.Span.Hi))
			more, e := rates.Balance(r.Postings, account)
			same(t, "the balance", before.Pence+more, max(e, before.Errno, now.Errno, r.Errno), now.Pence)
		}
	})
	if amended < 200 {
		t.Error("not an even test:", amended)
	}
}

// TestR7 asks twice: maps are visited in different orders, which must not matter.
func TestR7(t *testing.T) {
	tries(7, 20, func(_ *chance, l []api.Fact, q api.Question) {
		want := tribunal.Answer(l, q)
		line, _ := tribunal.Print(q)
		for range 4 {
			if got := tribunal.Answer(l, q); !isEqual(got, want) {
				t.Error("another answer", q, got, want)
			}
			got, e := tribunal.Parse(line)
			same(t, "Parse", got, e, q)
		}
	})
}
