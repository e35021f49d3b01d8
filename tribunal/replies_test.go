package tribunal_test

import (
	"reflect"
	"slices"
	"testing"

	"patrol/api"
	"patrol/clock"
	"patrol/office"
	"patrol/round"
	"patrol/tribunal"
)

// copyOf returns a copy of a value with memory of its own.
func copyOf[T any](x T) T {
	v := reflect.ValueOf(&x).Elem()
	makeOwn(v)
	return x
}

func makeOwn(v reflect.Value) {
	switch v.Kind() {
	case reflect.Struct:
		for k := range v.NumField() {
			makeOwn(v.Field(k))
		}
	case reflect.Slice:
		l := reflect.MakeSlice(v.Type(), v.Len(), v.Len())
		reflect.Copy(l, v)
		for k := range v.Len() {
			makeOwn(l.Index(k))
		}
		v.Set(l)
	}
}

// others returns copies of a value, in each of which one thing was changed: a number, a bool, or the length of a list.
func others[T any](x T) []T {
	var all []T
	for n := 0; ; n++ {
		y := copyOf(x)
		left := n
		if !changeOne(reflect.ValueOf(&y).Elem(), &left) {
			return all
		}
		all = append(all, y)
	}
}

// changeOne makes the change with an index, which it counts down; it reports whether there is this one.
func changeOne(v reflect.Value, left *int) bool {
	due := func() bool {
		*left--
		return *left < 0
	}
	switch v.Kind() {
	case reflect.Struct:
		for k := range v.NumField() {
			if changeOne(v.Field(k), left) {
				return true
			}
		}
	case reflect.Slice:
		for k := range v.Len() {
			if changeOne(v.Index(k), left) {
				return true
			}
		}
		if due() {
			v.Set(reflect.Append(v, reflect.Zero(v.Type().Elem())))
			return true
		}
		if v.Len() > 0 && due() {
			v.Set(v.Slice(0, v.Len()-1))
			return true
		}
		if v.Len() > 0 && due() {
			v.Set(reflect.Append(v, v.Index(v.Len()-1)))
			return true
		}
	case reflect.Int:
		for _, n := range []int64{1, -1} {
			if due() {
				v.SetInt(v.Int() + n)
				return true
			}
		}
	case reflect.Bool:
		if due() {
			v.SetBool(!v.Bool())
			return true
		}
	}
	return false
}

// accepts checks whether a reply is accepted.
func accepts(t *testing.T, l []api.Fact, q api.Question, r api.Reply, right bool) {
	t.Helper()
	want := api.ErrProof
	if right {
		want = api.OK
	}
	if e := tribunal.Accept(l, q, r); e != want {
		t.Errorf("Accept: %v: %s: %d, not %d", q, short(r), e, want)
	}
}

// judges checks whether a reply is accepted, by the chapter's sentences.
func judges(t *testing.T, l []api.Fact, q api.Question, r api.Reply) bool {
	t.Helper()
	right := isAnswer(l, q, r)
	accepts(t, l, q, r, right)
	return right
}

// readings returns all readings of a case, whose spans of times are short.
func readings(c api.Case) []api.Reading {
	var all []api.Reading
	sequences, _ := round.Sequences(c)
	for _, l := range sequences {
		record, _ := round.Record(c, l)
		spans, e := clock.Spans(record)
		if e != api.OK {
			continue
		}
		lists := [][]int{nil}
		for _, x := range spans {
			var more [][]int
			for _, times := range lists {
				for at := x.Lo; at <= x.Hi; at++ {
					more = append(more, append(slices.Clone(times), at))
				}
			}
			lists = more
		}
		for _, times := range lists {
			if r := (api.Reading{Reads: l, Times: times}); round.CheckReading(c, r) == api.OK {
				all = append(all, r)
			}
		}
	}
	return all
}

// tight are the facts of the examples, whose order asks for a walk of at most 100 seconds to the mill.
func tight() []api.Fact {
	return changed(1, func(f *api.Fact) { f.Dial.Order = sourced("gate then after 0 to 100 mill then loft") })
}

// TestP9_3Readings accepts any readings that prove a verdict, but no others.
func TestP9_3Readings(t *testing.T) {
	l := tight()
	for known, kind := range map[int]int{60000: api.VeDoubtful, 70000: api.VeDoubtful} {
		c, _ := office.Case(l, known, 7)
		all := readings(c)
		j := judgedAs(api.DiJudged, kind, api.OK)
		right := 0
		for k := range all {
			for m := k % 3; m < len(all); m += 3 {
				r := api.Reply{Judged: j, Readings: []api.Reading{all[k], all[m]}}
				is := isFulfilled(c, all[k]) && !isFulfilled(c, all[m])
				accepts(t, l, verdict(known, 7), r, is)
				if is {
					right++
				}
			}
			accepts(t, l, verdict(known, 7), api.Reply{Judged: j, Readings: all[k : k+1]}, false)
		}
		if len(all) < 15 || right < 10 {
			t.Error("not an even test:", len(all), right)
		}
	}
}

// TestP9_3Sure does so for verdicts that one reading proves.
func TestP9_3Sure(t *testing.T) {
	for _, x := range []struct {
		l     []api.Fact
		known int
		kind  int
	}{
		{fullFacts(), 70000, api.VeCertified}, {changed(1, func(f *api.Fact) { f.Dial.Order = sourced("mill") }), 70000, api.VeFailed},
	} {
		c, _ := office.Case(x.l, x.known, 7)
		wide, _ := office.Case(x.l, 60000, 7)
		all := readings(c)
		j := judgedAs(api.DiJudged, x.kind, api.OK)
		q := verdict(x.known, 7)
		for k, r := range all {
			accepts(t, x.l, q, api.Reply{Judged: j, Readings: all[k : k+1]}, true)
			accepts(t, x.l, q, api.Reply{Judged: j, Readings: []api.Reading{r, r}}, false)
			r.Times = slices.Clone(r.Times)
			r.Times[1] += 3
			accepts(t, x.l, q, api.Reply{Judged: j, Readings: []api.Reading{r}}, false)
		}
		accepts(t, x.l, q, api.Reply{Judged: j}, false)
		// A reading of what was known earlier is none any more.
		fewer := 0
		for _, r := range readings(wide) {
			is := round.CheckReading(c, r) == api.OK
			accepts(t, x.l, q, api.Reply{Judged: j, Readings: []api.Reading{r}}, is)
			if !is {
				fewer++
			}
		}
		if len(all) < 10 || fewer < 5 {
			t.Error("not an even test:", len(all), fewer)
		}
	}
}

// TestP9_3Stations accepts any reading that has the station.
func TestP9_3Stations(t *testing.T) {
	l := fullFacts()
	c, _ := office.Case(l, 60000, 7)
	had := 0
	for station, x := range c.Stations {
		q := missed(60000, 7, x.Name)
		for _, r := range readings(c) {
			is := hasStation(r.Reads, station)
			accepts(t, l, q, api.Reply{Readings: []api.Reading{r}}, is)
			accepts(t, l, q, api.Reply{Readings: []api.Reading{r, r}}, false)
			accepts(t, l, q, api.Reply{Yes: true, Readings: []api.Reading{r}}, false)
			if is {
				had++
			}
		}
		accepts(t, l, q, api.Reply{}, false)
		accepts(t, l, q, api.Reply{Yes: true}, false)
		accepts(t, l, q, api.Reply{Readings: []api.Reading{{}}}, false)
	}
	if had < 60 {
		t.Error("not an even test:", had)
	}
}

// TestP9_3Proofs accepts any refutations that prove what they should.
func TestP9_3Proofs(t *testing.T) {
	void := changed(1, func(f *api.Fact) { f.Dial.Start = 2 })
	seen := loftMarks()
	seen[1].Blank = 0
	lofty := with(fullFacts(), lookFact(5, 1, 1, 7, 9, seen...))
	for _, x := range []struct {
		l []api.Fact
		q api.Question
		n int
	}{{void, verdict(60000, 7), 4}, {void, verdict(70000, 7), 3}, {void, missed(60000, 7, "gate"), 4}, {void, missed(60000, 7, "mill"), 3}, {lofty, missed(60000, 7, "mill"), 2}} {
		r := tribunal.Answer(x.l, x.q)
		if len(r.Proofs) != x.n {
			t.Error("the proofs", x.q, r)
			continue
		}
		for k, p := range r.Proofs {
			y := copyOf(r)
			// Raises that say nothing, or say again what was said, do no harm.
			y.Proofs[k] = slices.Concat([]api.Raise{{Visit: 0, By: api.ByClock, To: -5}}, p, p, []api.Raise{{Visit: 1, By: api.ByClock}})
			accepts(t, x.l, x.q, y, true)
			y.Proofs[k] = append(y.Proofs[k], api.Raise{Visit: 0, By: api.ByWalk, To: 1})
			accepts(t, x.l, x.q, y, false)
			y.Proofs[k] = p[:len(p)-1]
			judges(t, x.l, x.q, y)
			y.Proofs[k] = nil
			accepts(t, x.l, x.q, y, false)
			y.Proofs = slices.Delete(copyOf(r).Proofs, k, k+1)
			accepts(t, x.l, x.q, y, false)
			y.Proofs = slices.Insert(copyOf(r).Proofs, k, p)
			accepts(t, x.l, x.q, y, false)
		}
		// In another order, they are refutations of other sequences.
		wrong := 0
		for k := range r.Proofs {
			for m := range k {
				y := copyOf(r)
				y.Proofs[k], y.Proofs[m] = y.Proofs[m], y.Proofs[k]
				if !judges(t, x.l, x.q, y) {
					wrong++
				}
			}
		}
		if wrong == 0 {
			t.Error("not an even test:", x.q)
		}
	}
}

// TestP9_3Changed changes one thing of an answer.
func TestP9_3Changed(t *testing.T) {
	void := changed(1, func(f *api.Fact) { f.Dial.Start = 2 })
	right, wrong := 0, 0
	try := func(l []api.Fact, q api.Question) {
		r := tribunal.Answer(l, q)
		accepts(t, l, q, r, true)
		for _, y := range others(r) {
			if judges(t, l, q, y) {
				right++
			} else {
				wrong++
			}
			if tribunal.Same(r, y) || tribunal.Same(y, r) || !tribunal.Same(y, copyOf(y)) {
				t.Error("Same", r, y)
			}
		}
	}
	for _, q := range append(aboutExamples(), verdict(4, 7), missed(4, 7, "mill"), when(60000, 7, "tower"), verdict(-1, 7), api.Question{}, balance(0, api.AcHouse, 0, 1), amend(4, 4, 0, 9)) {
		try(fullFacts(), q)
	}
	for _, q := range []api.Question{verdict(70000, 7), missed(70000, 7, "loft"), when(70000, 7, "loft")} {
		try(void, q)
	}
	for _, q := range aboutExamples() {
		try(facts(policyFact(9, 9, 9, api.Policy{})), q)
	}
	if right < 10 || wrong < 500 {
		t.Error("not an even test:", right, wrong)
	}
}

// TestP9_3Errors checks that an answer that is an error is accepted alone, and only where it is the answer.
func TestP9_3Errors(t *testing.T) {
	l := fullFacts()
	for _, q := range aboutExamples() {
		for e := api.Errno(-1); e <= 12; e++ {
			accepts(t, l, q, api.Reply{Errno: e}, e == api.OK && isEqual(tribunal.Answer(l, q), api.Reply{}))
			accepts(t, large(), verdict(60000, 7), api.Reply{Errno: e}, false)
			accepts(t, large(), missed(60000, 7, "mill"), api.Reply{Errno: e}, e == api.ErrLimit)
			accepts(t, loose(), who(60000, 7, "mill"), api.Reply{Errno: e}, e == api.ErrRange)
			accepts(t, l, missed(60000, 7, "tower"), api.Reply{Errno: e}, e == api.ErrNone)
			accepts(t, l, api.Question{}, api.Reply{Errno: e}, e == api.ErrArg)
			accepts(t, l, missed(59999, 7, "mill"), api.Reply{Errno: e}, e == api.ErrState)
			accepts(t, with(l, lookFact(5, 1, 1, 7, 9)), missed(60000, 7, "mill"), api.Reply{Errno: e}, e == api.ErrClash)
		}
	}
	r := tribunal.Answer(l, verdict(60000, 7))
	r.Errno = api.ErrNone
	accepts(t, l, verdict(60000, 7), r, false)
	accepts(t, l, verdict(4, 7), r, false)
}

// TestP9_3Chance judges answers to other questions, or by other facts, or that were changed.
func TestP9_3Chance(t *testing.T) {
	right, wrong := 0, 0
	tries(93, 60, func(c *chance, l []api.Fact, q api.Question) {
		r := tribunal.Answer(l, q)
		accepts(t, l, q, r, true)
		other := c.question(q.Kind)
		changed := slices.Clone(l)
		changed[c.n(len(l))].Known = c.n(lastKnown + 1)
		y := one(c, others(r)...)
		for _, is := range []bool{judges(t, l, other, r), judges(t, changed, q, r), judges(t, l[:len(l)-1], q, r), judges(t, l, q, y)} {
			if is {
				right++
			} else {
				wrong++
			}
		}
	})
	if min(right, wrong) < 200 {
		t.Error("not an even test:", right, wrong)
	}
}

// TestP9_3Wild judges readings and proofs that are none.
func TestP9_3Wild(t *testing.T) {
	l := fullFacts()
	void := changed(1, func(f *api.Fact) { f.Dial.Start = 2 })
	wildReadings := []api.Reading{
		{Reads: []api.Read{{Mark: -1, Station: -1}}, Times: []int{-1}}, {Reads: []api.Read{{Mark: 0, Station: 9}}, Times: []int{30999}}, {Reads: make([]api.Read, 100), Times: make([]int, 100)}, {Times: []int{5}},
		{Reads: []api.Read{{}, {Mark: 1, Station: 1}, {Mark: 2, Station: 2}}}, {Reads: []api.Read{{}, {Mark: 1, Station: 1}, {Mark: 2, Station: 2}}, Times: []int{minInt, maxInt, 0}}, {Reads: []api.Read{{}, {Mark: 1, Station: 1}, {Mark: 2, Station: 2}}, Times: []int{31201, 31100, 30999}},
		{Reads: []api.Read{{}, {Mark: 1, Station: 1}, {Mark: 2, Station: 2}}, Times: []int{30999, 31099, 31199, 31200}},
	}
	for _, x := range wildReadings {
		accepts(t, l, missed(60000, 7, "mill"), api.Reply{Readings: []api.Reading{x}}, false)
		accepts(t, l, verdict(70000, 7), api.Reply{Judged: judgedAs(api.DiJudged, api.VeCertified, api.OK), Readings: []api.Reading{x}}, false)
		accepts(t, l, verdict(60000, 7), api.Reply{Judged: judgedAs(api.DiJudged, api.VeDoubtful, api.OK), Readings: []api.Reading{x, x}}, false)
	}
	for _, x := range []api.Raise{{Visit: -1}, {Visit: 9, By: 9, To: 9}, {Visit: maxInt, By: minInt, To: maxInt}, {By: api.ByClock, To: maxInt}, {By: 0, To: 1}, {By: api.ByWalk, To: 0}, {Visit: 1, By: api.ByStart}} {
		for _, p := range [][][]api.Raise{{{x}}, {{x}, {x}, {x}}, {{x}, {x}, {x}, {x}}, make([][]api.Raise, 1000)} {
			accepts(t, void, missed(60000, 7, "mill"), api.Reply{Yes: true, Proofs: p}, false)
			accepts(t, void, verdict(60000, 7), api.Reply{Judged: judgedAs(api.DiJudged, api.VeVoid, api.OK), Proofs: p}, false)
		}
	}
}

func TestP9_3Same(t *testing.T) {
	full := api.Reply{
		Errno: api.ErrNone, Yes: true, Judged: api.Judged{No: 1, Night: 2, Round: 3, State: 4, Kind: 5, Errno: 6}, Span: span(7, 8), Pence: 9, List: []int{10, 11},
		Postings: []api.Posting{{Night: 1, No: 2, From: 3, To: 4, Amount: 5}, {}}, Readings: []api.Reading{{Reads: []api.Read{{Mark: 1, Station: 2}}, Times: []int{3}}, {}}, Proofs: [][]api.Raise{{{Visit: 1, By: 2, To: 3}}, nil},
	}
	all := others(full)
	if len(all) < 60 {
		t.Error("few others", len(all))
	}
	for _, x := range append(all, api.Reply{}) {
		if tribunal.Same(full, x) || tribunal.Same(x, full) || !tribunal.Same(x, copyOf(x)) || !tribunal.Same(full, copyOf(full)) {
			t.Error("Same", x)
		}
	}
	empty := api.Reply{List: []int{}, Postings: []api.Posting{}, Readings: []api.Reading{}, Proofs: [][]api.Raise{}}
	if !tribunal.Same(empty, api.Reply{}) || !tribunal.Same(api.Reply{}, empty) {
		t.Error("empty lists are not the same")
	}
	nested := api.Reply{Readings: []api.Reading{{Reads: []api.Read{}, Times: []int{}}}, Proofs: [][]api.Raise{{}}}
	if !tribunal.Same(nested, api.Reply{Readings: make([]api.Reading, 1), Proofs: make([][]api.Raise, 1)}) {
		t.Error("empty lists in lists are not the same")
	}
	if tribunal.Same(nested, api.Reply{}) || tribunal.Same(api.Reply{Proofs: make([][]api.Raise, 2)}, api.Reply{Proofs: make([][]api.Raise, 1)}) {
		t.Error("lists of another length are the same")
	}
}

// audits checks a result of Audit.
func audits(t *testing.T, l []api.Fact, qs []api.Question, rs []api.Reply, want int) {
	t.Helper()
	if at, e := tribunal.Audit(l, qs, rs); at != want || e != api.OK {
		t.Error("Audit", at, e, want)
	}
}

func TestP9_3Audit(t *testing.T) {
	l := fullFacts()
	qs := append(aboutExamples(), verdict(4, 7), api.Question{})
	var rs []api.Reply
	for _, q := range qs {
		rs = append(rs, tribunal.Answer(l, q))
	}
	audits(t, l, qs, rs, -1)
	audits(t, nil, nil, nil, -1)
	audits(t, l, []api.Question{}, nil, -1)
	for k := range qs {
		wrong := copyOf(rs)
		wrong[k].Pence++
		audits(t, l, qs, wrong, k)
		for m := range k {
			wrong[m].Span.Lo--
			audits(t, l, qs, wrong, m)
			wrong[m] = rs[m]
		}
		audits(t, l, qs[:k], wrong[:k], -1)
		audits(t, l, qs[k:], wrong[k:], 0)
	}
	audits(t, nil, qs, rs, 0)
	full := slices.Repeat(qs, 3)[:api.MaxQuestions]
	audits(t, l, full, slices.Repeat(rs, 3)[:api.MaxQuestions], -1)
	last := copyOf(slices.Repeat(rs, 3)[:api.MaxQuestions])
	last[api.MaxQuestions-1] = api.Reply{Errno: -1}
	audits(t, l, full, last, api.MaxQuestions-1)
	// What is wrong with the facts is an answer, and no error of Audit.
	audits(t, facts(api.Fact{}), qs, slices.Repeat([]api.Reply{{Errno: api.ErrArg}}, len(qs)), -1)
}

func TestP9_3AuditErrors(t *testing.T) {
	qs, rs := slices.Repeat(aboutExamples(), 4), make([]api.Reply, 100)
	for _, x := range []struct {
		qs, rs int
		want   api.Errno
	}{{41, 41, api.ErrLimit}, {41, 0, api.ErrLimit}, {48, 41, api.ErrLimit}, {40, 41, api.ErrArg}, {40, 39, api.ErrArg}, {0, 1, api.ErrArg}, {1, 0, api.ErrArg}, {3, 100, api.ErrArg}} {
		at, e := tribunal.Audit(fullFacts(), qs[:x.qs], rs[:x.rs])
		none(t, "Audit", at, e, x.want)
		at, e = tribunal.Audit(facts(api.Fact{}), qs[:x.qs], rs[:x.rs])
		none(t, "Audit with facts that are not valid", at, e, x.want)
	}
}
