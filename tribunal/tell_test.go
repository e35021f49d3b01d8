package tribunal_test

import (
	"fmt"
	"slices"
	"testing"

	"patrol/api"
	"patrol/tribunal"
)

// definedText returns the text of a reply, and the error that it has instead.
func definedText(r api.Reply) (string, api.Errno) {
	if r.Errno != 0 {
		return fmt.Sprintf("error %d\n", r.Errno), api.OK
	}
	if len(r.List) > 4000 || len(r.Postings) > 4000 || len(r.Readings) > 4000 || len(r.Proofs) > 4000 {
		return "", api.ErrLimit
	}
	for _, x := range r.Readings {
		if len(x.Reads) != len(x.Times) || len(x.Times) > 4000 {
			return "", api.ErrLimit
		}
	}
	text := ""
	if r.Yes {
		text += "yes\n"
	}
	if j := r.Judged; j.No != 0 {
		text += fmt.Sprintf("judged %d %d %d %d %d %d\n", j.No, j.Night, j.Round, j.State, j.Kind, j.Errno)
	}
	if r.Span.Lo != 0 || r.Span.Hi != 0 {
		text += fmt.Sprintf("span %d-%d\n", r.Span.Lo, r.Span.Hi)
	}
	if r.Pence != 0 {
		text += fmt.Sprintf("pence %d\n", r.Pence)
	}
	if len(r.List) != 0 {
		text += "list"
		for _, n := range r.List {
			text += fmt.Sprintf(" %d", n)
		}
		text += "\n"
	}
	for _, p := range r.Postings {
		isAccount := func(n int) bool { return n == -1 || n == -2 || n >= 1 && n <= api.MaxID }
		if p.Night < 0 || p.Night > 20000 || p.No < 0 || p.No > 12 || !isAccount(p.From) || !isAccount(p.To) || p.From == p.To || p.Amount < 1 || p.Amount > 1<<40 {
			return "", api.ErrArg
		}
		text += fmt.Sprintf("posting %d %d %d %d %d\n", p.Night, p.No, p.From, p.To, p.Amount)
	}
	for _, x := range r.Readings {
		text += "reading"
		for k, y := range x.Reads {
			text += fmt.Sprintf(" %d:%d@%d", y.Mark, y.Station, x.Times[k])
		}
		text += "\n"
	}
	for _, p := range r.Proofs {
		text += fmt.Sprintf("proof %d\n", len(p))
	}
	return text, api.OK
}

// tells checks a result of Tell.
func tells(t *testing.T, r api.Reply, want string, e api.Errno) {
	t.Helper()
	got, f := tribunal.Tell(r)
	if got != want || f != e {
		t.Errorf("Tell: %s: %q %d, not %q %d", short(r), got, f, want, e)
	}
	if text, g := definedText(r); text != want || g != e {
		t.Errorf("the definition: %s: %q %d, not %q %d", short(r), text, g, want, e)
	}
}

// posting returns a valid posting.
func posting(amount int) api.Posting {
	return api.Posting{Night: 3, No: 1, From: api.AcHouse, To: 9, Amount: amount}
}

// aReading returns a reading with one read.
func aReading(mark, station, time int) api.Reading {
	return api.Reading{Reads: []api.Read{{Mark: mark, Station: station}}, Times: []int{time}}
}

func TestP9_6(t *testing.T) {
	for want, r := range map[string]api.Reply{
		"":                           {},
		"yes\n":                      {Yes: true},
		"judged 7 3 1 1 2 0\n":       {Judged: judgedAs(api.DiJudged, api.VeDoubtful, api.OK)},
		"judged 7 0 0 5 0 3\n":       {Judged: api.Judged{No: 7, State: api.DiWrong, Errno: api.ErrRange}},
		"judged -7 -1 -2 -3 -4 -5\n": {Judged: api.Judged{No: -7, Night: -1, Round: -2, State: -3, Kind: -4, Errno: -5}},
		"span 31099-31101\n":         {Span: span(31099, 31101)},
		"span 0-1\n":                 {Span: span(0, 1)},
		"span 1-0\n":                 {Span: span(1, 0)},
		"span -1--1\n":               {Span: span(-1, -1)},
		"pence 40\n":                 {Pence: 40},
		"pence -470\n":               {Pence: -470},
		"list 7\n":                   {List: []int{7}},
		"list 0\n":                   {List: []int{0}},
		"list -1 0 1 2\n":            {List: []int{-1, 0, 1, 2}},
		"posting 3 1 -1 9 10\n":      {Postings: []api.Posting{posting(10)}},
		"posting 3 1 -1 9 10\nposting 3 1 -1 9 11\n": {Postings: []api.Posting{posting(10), posting(11)}},
		"reading\n":                   {Readings: []api.Reading{{}}},
		"reading 0:2@31099\n":         {Readings: []api.Reading{aReading(0, 2, 31099)}},
		"reading -1:-2@-3\nreading\n": {Readings: []api.Reading{aReading(-1, -2, -3), {}}},
		"reading 0:0@1 1:1@2 1:2@3\n": {Readings: []api.Reading{{Reads: []api.Read{{}, {Mark: 1, Station: 1}, {Mark: 1, Station: 2}}, Times: []int{1, 2, 3}}}},
		"proof 0\nproof 2\n":          {Proofs: [][]api.Raise{nil, make([]api.Raise, 2)}},
		"error 5\n":                   {Errno: api.ErrNone},
		"error -1\n":                  {Errno: -1},
		"error 77\n":                  {Errno: 77, Yes: true, Judged: api.Judged{No: 1}, Span: span(1, 2), Pence: 3, List: make([]int, 4001), Postings: make([]api.Posting, 5000), Readings: []api.Reading{{Times: []int{1}}}, Proofs: make([][]api.Raise, 5000)},
		"yes\njudged 1 0 0 0 0 0\nspan 0-9\npence 2\nlist 3 4\nposting 3 1 -1 9 5\nreading 6:7@8\nproof 1\n": {Yes: true, Judged: api.Judged{No: 1}, Span: span(0, 9), Pence: 2, List: []int{3, 4}, Postings: []api.Posting{posting(5)}, Readings: []api.Reading{aReading(6, 7, 8)}, Proofs: [][]api.Raise{{{}}}},
	} {
		tells(t, r, want, api.OK)
	}
	// A verdict is told if it is on a dial with a number.
	tells(t, api.Reply{Judged: api.Judged{Night: 1, Round: 2, State: 3, Kind: 4, Errno: 5}}, "", api.OK)
	for _, q := range aboutExamples() {
		r := tribunal.Answer(fullFacts(), q)
		want, e := definedText(r)
		tells(t, r, want, e)
	}
}

func TestP9_6Errors(t *testing.T) {
	bad := []api.Posting{posting(0)}
	long := func(n int) api.Reading { return api.Reading{Reads: make([]api.Read, n), Times: make([]int, n)} }
	for _, r := range []api.Reply{
		{List: make([]int, 4001)}, {Postings: slices.Repeat([]api.Posting{posting(1)}, 4001)}, {Postings: make([]api.Posting, 4001)}, {Readings: make([]api.Reading, 4001)}, {Proofs: make([][]api.Raise, 4001)},
		{Readings: []api.Reading{{Times: []int{1}}}}, {Readings: []api.Reading{{Reads: make([]api.Read, 1)}}}, {Readings: []api.Reading{aReading(1, 2, 3), {Reads: make([]api.Read, 2), Times: []int{1}}}}, {Readings: []api.Reading{long(4001)}}, {Readings: []api.Reading{{}, long(5000)}},
		// These errors come ahead of that of a posting.
		{List: make([]int, 4001), Postings: bad}, {Proofs: make([][]api.Raise, 4001), Postings: bad}, {Readings: []api.Reading{{Times: []int{1}}}, Postings: bad}, {Readings: []api.Reading{long(4001)}, Postings: bad},
	} {
		tells(t, r, "", api.ErrLimit)
	}
	for _, r := range []api.Reply{
		{List: make([]int, 4000)}, {Postings: slices.Repeat([]api.Posting{posting(1)}, 4000)}, {Readings: make([]api.Reading, 4000)}, {Proofs: make([][]api.Raise, 4000)}, {Readings: []api.Reading{long(4000)}}, {Proofs: [][]api.Raise{make([]api.Raise, 5000)}},
	} {
		want, _ := definedText(r)
		tells(t, r, want, api.OK)
	}
	for _, change := range []func(p *api.Posting){
		func(p *api.Posting) { p.Night = -1 }, func(p *api.Posting) { p.Night = api.MaxNight + 1 }, func(p *api.Posting) { p.No = -1 }, func(p *api.Posting) { p.No = api.MaxRounds + 1 }, func(p *api.Posting) { p.From = 0 }, func(p *api.Posting) { p.To = -3 },
		func(p *api.Posting) { p.To = p.From }, func(p *api.Posting) { p.To = api.MaxID + 1 }, func(p *api.Posting) { p.Amount = 0 }, func(p *api.Posting) { p.Amount = api.MaxAmount + 1 },
	} {
		p := posting(1)
		change(&p)
		tells(t, api.Reply{Yes: true, Postings: []api.Posting{p}}, "", api.ErrArg)
		tells(t, api.Reply{Pence: 1, Postings: []api.Posting{posting(1), p, posting(2)}}, "", api.ErrArg)
	}
}

// reply returns a reply with anything in it.
func (c *chance) reply() api.Reply {
	number := func() int {
		return c.pick(0, 0, c.n(5), -c.n(5), c.n(100000), minInt, maxInt)
	}
	r := api.Reply{Errno: api.Errno(c.pick(0, 0, 0, 0, number())), Yes: c.n(2) == 0, Span: span(number(), number()), Pence: number()}
	r.Judged = api.Judged{No: number(), Night: number(), Round: number(), State: number(), Kind: number(), Errno: api.Errno(number())}
	for range c.n(4) {
		r.List = append(r.List, number())
	}
	for range c.n(3) {
		p := posting(c.from(1, 9))
		if c.n(8) == 0 {
			p.To = number()
		}
		r.Postings = append(r.Postings, p)
	}
	for range c.n(3) {
		var x api.Reading
		for range c.n(3) {
			x.Reads = append(x.Reads, api.Read{Mark: number(), Station: number()})
			x.Times = append(x.Times, number())
		}
		if c.n(12) == 0 {
			x.Times = append(x.Times, 1)
		}
		r.Readings = append(r.Readings, x)
	}
	for range c.n(3) {
		r.Proofs = append(r.Proofs, make([]api.Raise, c.n(3)))
	}
	return r
}

func TestP9_6Chance(t *testing.T) {
	c := chance(96)
	var errors [10]int
	for range 3000 {
		r := c.reply()
		want, e := definedText(r)
		tells(t, r, want, e)
		errors[e]++
	}
	if min(errors[api.OK], errors[api.ErrArg], errors[api.ErrLimit]) < 100 {
		t.Error("not an even test:", errors)
	}
	tries(961, 10, func(_ *chance, l []api.Fact, q api.Question) {
		r := tribunal.Answer(l, q)
		want, e := definedText(r)
		tells(t, r, want, e)
		if e != api.OK {
			t.Error("an answer without a text", q, r)
		}
	})
}
