package tribunal_test

import (
	"testing"

	"patrol/api"
	"patrol/office"
	"patrol/round"
	"patrol/tribunal"
)

// asked returns the answer to the question of a line, which is accepted.
func asked(t *testing.T, l []api.Fact, line string) api.Reply {
	t.Helper()
	q, e := tribunal.Parse(line)
	if e != api.OK {
		t.Fatal(line, e)
	}
	r := tribunal.Answer(l, q)
	if e := tribunal.Accept(l, q, r); e != api.OK {
		t.Error(line, r, e)
	}
	return r
}

// TestExamplesOfAnswers are the chapter's examples of answers.
func TestExamplesOfAnswers(t *testing.T) {
	l := exampleFacts()
	doubtful := api.Judged{No: 7, Night: 3, Round: 1, State: api.DiJudged, Kind: api.VeDoubtful}
	certified := api.Judged{No: 7, Night: 3, Round: 1, State: api.DiJudged, Kind: api.VeCertified}
	for line, want := range map[string]api.Reply{
		"verdict 4 7":                 {Errno: api.ErrNone},
		"verdict 5 7":                 {Judged: api.Judged{No: 7, Night: 3, Round: 1, State: api.DiUnread}},
		"missed 60000 7 tower":        {Errno: api.ErrNone},
		"when 60000 7 mill":           {Span: span(31099, 31101)},
		"who 60000 7 mill":            {Errno: api.ErrNone},
		"rests 70000 3 1":             {List: []int{7}},
		"placed 60000 7 mill 0-30059": {},
	} {
		same(t, line, asked(t, l, line), api.OK, want)
	}
	r := asked(t, l, "verdict 60000 7")
	if r.Judged != doubtful || len(r.Readings) != 2 || len(r.Proofs) != 0 {
		t.Error("verdict 60000 7", r)
	}
	r = asked(t, l, "verdict 70000 7")
	if r.Judged != certified || len(r.Readings) != 1 || len(r.Proofs) != 0 {
		t.Error("verdict 70000 7", r)
	}
	c, _ := office.Case(l, 60000, 7)
	r = asked(t, l, "missed 60000 7 mill")
	if r.Yes || len(r.Readings) != 1 || len(r.Proofs) != 0 || round.CheckReading(c, r.Readings[0]) != api.OK || !hasStation(r.Readings[0].Reads, 1) {
		t.Error("missed 60000 7 mill", r)
	}
	text, e := tribunal.Tell(asked(t, l, "when 60000 7 mill"))
	same(t, "Tell", text, e, "span 31099-31101\n")
}

// TestExamplesOfCourts are the chapter's examples of a court.
func TestExamplesOfCourts(t *testing.T) {
	c, e := tribunal.New(2)
	if e != api.OK {
		t.Fatal("New", e)
	}
	do := func(l ...api.Act) {
		t.Helper()
		for _, a := range l {
			r, e := c.Do(a)
			same(t, "Do", r, e, api.Reply{})
		}
	}
	f := exampleFacts()[0]
	do(api.Act{Kind: api.AcWrite, Office: 1, Fact: unnamed(f)}, api.Act{Kind: api.AcSend, Office: 1, To: 2}, api.Act{Kind: api.AcCopy})
	same(t, "Post", c.Post(), api.OK, []api.Letter{{From: 1, To: 2, Facts: 1}, {From: 1, To: 2, Facts: 1}})
	do(api.Act{Kind: api.AcDeliver}, api.Act{Kind: api.AcDeliver})
	same(t, "Post", c.Post(), api.OK, nil)
	got, e := c.Facts(2)
	same(t, "Facts of 2", got, e, facts(f))
	do(api.Act{Kind: api.AcCrash, Office: 2, N: 1}, api.Act{Kind: api.AcSend, Office: 1, To: 2})
	same(t, "Post", c.Post(), api.OK, []api.Letter{{From: 1, To: 2, Facts: 1}})
	got, e = c.Facts(2)
	same(t, "Facts of 2, which crashed", got, e, nil)
}

// TestExamplesOfTheWhole are the last example of DOC.md, and those of the layers below that are questions, too.
func TestExamplesOfTheWhole(t *testing.T) {
	l := exampleFacts()
	r := asked(t, l, "missed 60000 7 mill")
	forged := api.Reply{Yes: true}
	for _, proofs := range [][][]api.Raise{nil, {nil}, {nil, nil}, {{{Visit: 0, By: api.ByClock, To: 30999}}, {{Visit: 1, By: api.ByWalk, To: 31089}}}} {
		forged.Proofs = proofs
		if e := tribunal.Accept(l, missed(60000, 7, "mill"), forged); e != api.ErrProof {
			t.Error("a reply that says yes", forged, e)
		}
		forged.Readings = r.Readings
		if e := tribunal.Accept(l, missed(60000, 7, "mill"), forged); e != api.ErrProof {
			t.Error("a reply that says yes", forged, e)
		}
	}
	// The seventh example: only the man 9 can have struck the second mark, if it is of the key 2.
	book := api.Custody{People: []api.Person{{ID: 8, Duty: []api.Span{span(0, 90000)}}, {ID: 9, Duty: []api.Span{span(0, 90000)}}}, Keys: []int{2}, Entries: []api.Entry{{ID: 1, Key: 2, Kind: api.CuPass, From: api.Board, To: 9, At: span(30000, 31000)}}}
	same(t, "who", asked(t, append(l, custodyFact(4, 1, 60000, book)), "who 60000 7 mill"), api.OK, api.Reply{List: []int{9}})
	// The eighth one: the second reader earns the house 40 pence, of which the watchman gets 10.
	l = append(l, policyFact(4, 1, 1, api.Policy{Base: 500, Credit: 40, Cap: 500, Bonus: 250}))
	same(t, "amend", asked(t, l, "amend 70000 60000 3-3"), api.OK, api.Reply{Postings: []api.Posting{{Night: 3, No: 1, From: api.AcInsurer, To: api.AcHouse, Amount: 40}, {Night: 3, No: 1, From: api.AcHouse, To: 9, Amount: 10}}})
	same(t, "balance", asked(t, l, "balance 70000 -1 3-3"), api.OK, api.Reply{Pence: -470})
	same(t, "balance", asked(t, l, "balance 60000 -1 3-3"), api.OK, api.Reply{Pence: -500})
	same(t, "balance", asked(t, l, "balance 70000 9 0-399"), api.OK, api.Reply{Pence: 10})
}
