package office_test

import (
	"strings"
	"testing"

	"patrol/api"
	"patrol/office"
)

func TestExamples(t *testing.T) {
	l := exampleFacts()
	j, e := office.Judge(l, 4, 7)
	none(t, "at 4", j, e, api.ErrNone)
	for _, x := range []struct {
		known int
		want  api.Judged
	}{
		{5, api.Judged{No: 7, Night: 3, Round: 1, State: api.DiUnread}},
		{59999, api.Judged{No: 7, Night: 3, Round: 1, State: api.DiUnread}},
		{60000, api.Judged{No: 7, Night: 3, Round: 1, State: api.DiJudged, Kind: api.VeDoubtful}},
		{69999, api.Judged{No: 7, Night: 3, Round: 1, State: api.DiJudged, Kind: api.VeDoubtful}},
		{70000, api.Judged{No: 7, Night: 3, Round: 1, State: api.DiJudged, Kind: api.VeCertified}},
		{79999, api.Judged{No: 7, Night: 3, Round: 1, State: api.DiJudged, Kind: api.VeCertified}},
		{80000, api.Judged{No: 7, Night: 3, Round: 1, State: api.DiJudged, Kind: api.VeDoubtful}},
		{api.MaxTime, api.Judged{No: 7, Night: 3, Round: 1, State: api.DiJudged, Kind: api.VeDoubtful}},
	} {
		j, e := office.Judge(l, x.known, 7)
		same(t, "Judge", j, e, x.want)
	}
	rest, e := office.Rests(l, 70000, name(3, 1))
	same(t, "Rests at 70000", rest, e, []int{7})
	rest, e = office.Rests(l, 80000, name(3, 1))
	same(t, "Rests at 80000", rest, e, nil)
}

func TestExamplesOfTexts(t *testing.T) {
	const text = "fact 2 2 80000 6\nwithdraw 3 1\n"
	f := exampleFacts()[4]
	got, e := office.Encode(f)
	same(t, "Encode", got, e, text)
	page, e := office.Page(5, f)
	sum, is := strings.CutPrefix(page, "page 5 30 ")
	if !is || e != api.OK || !strings.HasSuffix(sum, "\n"+text) {
		t.Error("Page", page, e)
	}
	f, e = office.Decode(text)
	same(t, "Decode", f, e, exampleFacts()[4])
}

func TestExamplesOfOffices(t *testing.T) {
	l := exampleFacts()
	o := opened(t, 1)
	for _, f := range l[:2] {
		got, e := o.Write(unnamed(f))
		same(t, "Write", got, e, f)
	}
	same(t, "Have", o.Have(), api.OK, []int{2, 0, 0, 0, 0, 0, 0, 0})
	if n, e := o.Take(facts(l[4])); n != 0 || e != api.OK {
		t.Error("Take of {2, 2}", n, e)
	}
	if n, e := o.Take(facts(l[2], l[4])); n != 2 || e != api.OK {
		t.Error("Take of {2, 1} and {2, 2}", n, e)
	}
	holds(t, "the office 1", o, facts(l[0], l[1], l[2], l[4]))
}

// TestExamplesOfTheWhole are the eighth and ninth examples of DOC.md.
func TestExamplesOfTheWhole(t *testing.T) {
	l := append(exampleFacts(), policyFact(4, 1, 1, api.Policy{Base: 500, Credit: 40, Cap: 500, Bonus: 250}))
	night := span(3, 3)
	postings, e := office.Ledger(l, 60000, night)
	same(t, "the ledger at 60000", postings, e, []api.Posting{{Night: 3, From: api.AcHouse, To: api.AcInsurer, Amount: 500}})
	postings, e = office.Amend(l, 60000, 70000, night)
	same(t, "what the second reader earns the house", postings, e, []api.Posting{{Night: 3, No: 1, From: api.AcInsurer, To: api.AcHouse, Amount: 40}, {Night: 3, No: 1, From: api.AcHouse, To: 9, Amount: 10}})
	postings, e = office.Amend(l, 70000, 80000, night)
	same(t, "when it is withdrawn", postings, e, []api.Posting{{Night: 3, No: 1, From: api.AcHouse, To: api.AcInsurer, Amount: 40}, {Night: 3, No: 1, From: 9, To: api.AcHouse, Amount: 10}})
}
