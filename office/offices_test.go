package office_test

import (
	"slices"
	"strings"
	"testing"

	"patrol/api"
	"patrol/office"
)

// pagesOf returns the pages of facts in an order in which they came.
func pagesOf(l []api.Fact) []string {
	var pages []string
	for k, f := range l {
		page, e := office.Page(k+1, f)
		if e != api.OK {
			panic("no page")
		}
		pages = append(pages, page)
	}
	return pages
}

// notOpened checks an error of Open.
func notOpened(t *testing.T, what string, id int, pages []string, want api.Errno) {
	t.Helper()
	if o, e := office.Open(id, pages); o != nil || e != want {
		t.Errorf("Open: %s: %v %d, not %d", what, o, e, want)
	}
}

// opens checks which facts an office holds that is opened.
func opens(t *testing.T, what string, pages []string, want []api.Fact) {
	t.Helper()
	o, e := office.Open(3, pages)
	if e != api.OK {
		t.Errorf("Open: %s: %d", what, e)
		return
	}
	holds(t, what, o, want)
}

// chain returns facts of all kinds that can have come one behind the other.
func chain() []api.Fact {
	return facts(
		settingFact(2, 1, 5, exampleSetting()), dialFact(1, 1, 7, richDial()), lookFact(2, 2, 5, 7, 4, exampleMarks()...),
		policyFact(8, 1, 0, richPolicy()), custodyFact(2, 3, 6, richCustody()), withdrawal(1, 2, 7, name(2, 2)), settingFact(1, 3, 9, richSetting()),
	)
}

func TestP8_11(t *testing.T) {
	for id := 1; id <= api.MaxOffices; id++ {
		o, e := office.Open(id, pagesOf(chain()))
		if e != api.OK || o.ID() != id {
			t.Error("Open", id, e)
			continue
		}
		holds(t, "a whole book", o, chain())
	}
	opens(t, "no pages", nil, nil)
	opens(t, "no pages", []string{}, nil)
	opens(t, "one page that is torn", []string{""}, nil)
	opens(t, "one page that is none", []string{"x"}, nil)
	pages := pagesOf(chain())
	for n := range pages {
		opens(t, "fewer pages", pages[:n], chain()[:n])
		last := pages[n]
		for cut := range last {
			opens(t, "a torn page", withPage(pages[:n], last[:cut]), chain()[:n])
		}
		// The last page is left out, too, if something else is wrong with it: another number, sum or length, another byte, or more of them.
		other, _ := office.Page(n+2, chain()[n])
		text, _ := office.Encode(chain()[n])
		for _, x := range []string{other, text, last + "x", last + "\n", " " + last, "\n" + last, last + last, strings.Replace(last, "page ", "page 0", 1), strings.Replace(last, " ", "  ", 1), strings.Replace(last, "1", "2", 1), strings.Replace(last, "\n", " \n", 1), strings.Replace(last, "fact", "facs", 1)} {
			opens(t, "a wrong last page", withPage(pages[:n], x), chain()[:n])
			if n+1 < len(pages) {
				notOpened(t, "a wrong page", 3, slices.Concat(pages[:n], []string{x}, pages[n+1:]), api.ErrForm)
			}
		}
		if n+1 < len(pages) {
			notOpened(t, "a torn page that is not the last one", 3, slices.Concat(pages[:n], []string{last[:len(last)-1]}, pages[n+1:]), api.ErrForm)
			notOpened(t, "an empty page that is not the last one", 3, slices.Concat(pages[:n], []string{""}, pages[n+1:]), api.ErrForm)
		}
	}
	notOpened(t, "two torn pages", 3, []string{"", ""}, api.ErrForm)
}

// withPage returns a copy of a list of pages with one more.
func withPage(pages []string, page string) []string { return append(slices.Clone(pages), page) }

// TestP8_11Sum changes each byte of a page, whose sum is another one then.
func TestP8_11Sum(t *testing.T) {
	page := pagesOf(chain())[0]
	for k := range len(page) {
		for _, x := range []string{"0", "1", "7", "a", " ", "\n"} {
			if other := page[:k] + x + page[k+1:]; other != page {
				opens(t, "a page of which a byte was changed", []string{other}, nil)
			}
		}
	}
}

// TestP8_11Follow opens pages that are whole, but whose facts do not follow.
func TestP8_11Follow(t *testing.T) {
	p := func(office, no, known int) api.Fact { return policyFact(office, no, known, api.Policy{}) }
	for _, l := range [][]api.Fact{
		facts(p(1, 2, 5)), facts(p(1, 1, 5), p(1, 3, 5)), facts(p(1, 1, 5), p(1, 1, 5)), facts(p(1, 1, 5), p(2, 2, 5)), facts(p(1, 1, 5), p(1, 2, 4)),
		facts(p(1, 1, 5), p(2, 1, 5), p(1, 2, 6), p(1, 3, 5)), facts(p(3, 1, 5), p(3, 2, 5), p(3, 2, 5)), facts(p(3, 60, 1)),
	} {
		notOpened(t, "facts that do not follow", 3, pagesOf(l), api.ErrForm)
		// A further page that is torn is left out, but not the one before it.
		notOpened(t, "facts that do not follow, and a torn page", 3, withPage(pagesOf(l), ""), api.ErrForm)
		opens(t, "those that do", pagesOf(l[:len(l)-1]), l[:len(l)-1])
	}
	opens(t, "the same Known", pagesOf(facts(p(1, 1, 5), p(1, 2, 5), p(2, 1, 0), p(1, 3, 5))), facts(p(1, 1, 5), p(1, 2, 5), p(2, 1, 0), p(1, 3, 5)))
}

func TestP8_11Errors(t *testing.T) {
	full := manyFacts(api.MaxFacts)
	opens(t, "as many pages as there may be", pagesOf(full), full)
	opens(t, "as many, with a torn one", withPage(pagesOf(full[:api.MaxFacts-1]), "x"), full[:api.MaxFacts-1])
	many := withPage(pagesOf(full), "x")
	for _, id := range []int{minInt, -1, 0, api.MaxOffices + 1, maxInt} {
		notOpened(t, "no office", id, nil, api.ErrArg)
		notOpened(t, "no office, and too many pages", id, many, api.ErrArg)
		notOpened(t, "no office, and wrong pages", id, []string{"x", "y"}, api.ErrArg)
	}
	notOpened(t, "too many pages, the last one torn", 1, many, api.ErrLimit)
	notOpened(t, "too many pages, all wrong", 8, make([]string, api.MaxFacts+1), api.ErrLimit)
	notOpened(t, "many pages, all wrong", 8, make([]string, api.MaxFacts), api.ErrForm)
}

// notWritten checks an error of Write, which changes nothing.
func notWritten(t *testing.T, what string, o *office.Office, f api.Fact, want api.Errno) {
	t.Helper()
	was := o.Pages()
	got, e := o.Write(f)
	none(t, what, got, e, want)
	same(t, what+": Pages", o.Pages(), api.OK, was)
}

func TestP8_12(t *testing.T) {
	o := opened(t, 4)
	var came []api.Fact
	for k, f := range richFacts() {
		f.Office, f.No, f.Known = 0, 0, 10+k/2
		got, e := o.Write(f)
		f.Office, f.No = 4, k+1
		same(t, "Write", got, e, f)
		came = append(came, f)
		holds(t, "behind Write", o, came)
	}
	// Facts of other offices do not matter, whatever their number and their Known.
	if n, e := o.Take(facts(policyFact(2, 1, api.MaxTime, api.Policy{}))); n != 1 || e != api.OK {
		t.Error("Take", n, e)
	}
	f := policyFact(0, 0, 12, api.Policy{Base: 3})
	got, e := o.Write(f)
	f.Office, f.No = 4, 7
	same(t, "Write", got, e, f)
	// But its own facts do, wherever they come from.
	if n, e := o.Take(facts(policyFact(4, 8, 15, api.Policy{}))); n != 1 || e != api.OK {
		t.Error("Take", n, e)
	}
	notWritten(t, "before a fact of its own that was taken", o, policyFact(0, 0, 14, api.Policy{}), api.ErrState)
	got, e = o.Write(policyFact(0, 0, 15, api.Policy{}))
	same(t, "Write", got, e, policyFact(4, 9, 15, api.Policy{}))
}

func TestP8_12Errors(t *testing.T) {
	o := opened(t, 4)
	if _, e := o.Write(policyFact(0, 0, 10, api.Policy{})); e != api.OK {
		t.Error("Write", e)
	}
	good := policyFact(0, 0, 10, api.Policy{})
	named := func(office, no int) api.Fact { return policyFact(office, no, 10, api.Policy{}) }
	for _, f := range facts(named(4, 2), named(4, 0), named(0, 2), named(0, -1), named(-1, 0), named(9, 61)) {
		notWritten(t, "a fact with a name", o, f, api.ErrArg)
	}
	invalid := policyFact(0, 0, 10, api.Policy{Bonus: -1})
	notWritten(t, "a fact that is not valid", o, invalid, api.ErrArg)
	notWritten(t, "a fact that is not valid, and too early", o, policyFact(0, 0, 9, api.Policy{Bonus: -1}), api.ErrArg)
	notWritten(t, "no time", o, policyFact(0, 0, -1, api.Policy{}), api.ErrArg)
	notWritten(t, "no kind", o, api.Fact{Known: 10}, api.ErrArg)
	notWritten(t, "too early", o, policyFact(0, 0, 9, api.Policy{}), api.ErrState)
	// The fact is valid under the name that it gets: it cannot withdraw itself, but one that comes later.
	notWritten(t, "a withdrawal of itself", o, withdrawal(0, 0, 10, name(4, 2)), api.ErrArg)
	got, e := o.Write(withdrawal(0, 0, 10, name(4, 3)))
	same(t, "a withdrawal of the next one", got, e, withdrawal(4, 2, 10, name(4, 3)))
	for range api.MaxNo - 2 {
		if _, e := o.Write(good); e != api.OK {
			t.Error("Write", e)
		}
	}
	same(t, "Have", o.Have(), api.OK, []int{0, 0, 0, api.MaxNo, 0, 0, 0, 0})
	notWritten(t, "too many facts of the office", o, good, api.ErrLimit)
	notWritten(t, "too many, and not valid", o, invalid, api.ErrLimit)
	notWritten(t, "too many, and too early", o, policyFact(0, 0, 9, api.Policy{}), api.ErrLimit)
	notWritten(t, "too many, and a name", o, named(4, 61), api.ErrArg)
}

func TestP8_12Full(t *testing.T) {
	full := manyFacts(api.MaxFacts) // of the offices 1 to 5
	o := taker(t, 6, full[:api.MaxFacts-1])
	f := policyFact(0, 0, 0, api.Policy{})
	got, e := o.Write(f)
	same(t, "the last fact", got, e, policyFact(6, 1, 0, api.Policy{}))
	notWritten(t, "too many facts", o, f, api.ErrLimit)
	notWritten(t, "too many facts, and not valid", o, api.Fact{}, api.ErrLimit)
	notWritten(t, "too many facts, and a name", o, policyFact(0, 1, 0, api.Policy{}), api.ErrArg)
	holds(t, "a full office", o, append(full[:api.MaxFacts-1], got))
}

// takes checks what Take returns, and which facts are held behind it.
func takes(t *testing.T, what string, o *office.Office, l []api.Fact, n int, e api.Errno, held []api.Fact) {
	t.Helper()
	if got, f := o.Take(l); got != n || f != e {
		t.Errorf("Take: %s: %d %d, not %d %d", what, got, f, n, e)
	}
	holds(t, what, o, held)
}

func TestP8_13(t *testing.T) {
	l := chain()
	o := opened(t, 5)
	takes(t, "nothing", o, nil, 0, api.OK, nil)
	takes(t, "a fact", o, l[:1], 1, api.OK, l[:1])
	takes(t, "again", o, l[:1], 0, api.OK, l[:1])
	takes(t, "with empty lists", o, facts(emptied(l[0])), 0, api.OK, l[:1])
	takes(t, "with a gap", o, facts(l[4]), 0, api.OK, l[:1])
	takes(t, "with a gap from the beginning", o, facts(l[5], l[6]), 0, api.OK, l[:1])
	takes(t, "in the wrong order", o, facts(l[4], l[2]), 1, api.OK, facts(l[0], l[2]))
	takes(t, "several times", o, facts(l[1], l[1], l[0], l[5], l[1], l[4], l[6], l[4]), 4, api.OK, facts(l[0], l[2], l[1], l[5], l[4], l[6]))
	takes(t, "the last one", o, l, 1, api.OK, facts(l[0], l[2], l[1], l[5], l[4], l[6], l[3]))
	takes(t, "all of them again", o, slices.Repeat(l, 100), 0, api.OK, facts(l[0], l[2], l[1], l[5], l[4], l[6], l[3]))
	own := policyFact(5, 1, 3, api.Policy{})
	takes(t, "a fact of its own", o, facts(own), 1, api.OK, facts(l[0], l[2], l[1], l[5], l[4], l[6], l[3], own))
}

func TestP8_13Errors(t *testing.T) {
	p := func(office, no, known int) api.Fact { return policyFact(office, no, known, api.Policy{}) }
	other := func(office, no, known int) api.Fact { return policyFact(office, no, known, api.Policy{Base: 1}) }
	wrong := api.Fact{Office: 1, No: 1}
	base := facts(p(1, 1, 5), p(1, 2, 7))
	for k, x := range []struct {
		l    []api.Fact
		want api.Errno
		held []api.Fact // behind those of base
	}{
		{facts(wrong), api.ErrArg, nil}, {facts(p(0, 1, 5)), api.ErrArg, nil}, {facts(p(9, 1, 5)), api.ErrArg, nil}, {facts(p(1, 61, 5)), api.ErrArg, nil}, {facts(p(1, 0, 5)), api.ErrArg, nil}, {facts(p(1, -1, 5)), api.ErrArg, nil},
		{facts(other(1, 1, 5)), api.ErrClash, nil}, {facts(p(1, 1, 6)), api.ErrClash, nil}, {facts(p(1, 2, 5)), api.ErrClash, nil}, {facts(withdrawal(1, 2, 7, name(1, 1))), api.ErrClash, nil},
		{facts(p(1, 3, 6)), api.ErrClash, nil}, {facts(p(1, 4, 6)), api.OK, nil}, {facts(p(1, 3, 7)), api.OK, facts(p(1, 3, 7))},
		// What comes before an error remains added, what comes behind it is not.
		{facts(p(2, 1, 0), wrong, p(3, 1, 0)), api.ErrArg, facts(p(2, 1, 0))},
		{facts(p(2, 1, 0), p(1, 1, 5), p(1, 3, 8), other(1, 3, 8), p(3, 1, 0)), api.ErrClash, facts(p(2, 1, 0), p(1, 3, 8))},
		{facts(p(1, 3, 9), p(1, 4, 8), wrong), api.ErrClash, facts(p(1, 3, 9))},
		{facts(p(1, 4, 9), p(1, 3, 9), p(1, 4, 8)), api.ErrClash, facts(p(1, 3, 9))},
		{facts(wrong, other(1, 1, 5)), api.ErrArg, nil}, {facts(other(1, 1, 5), wrong), api.ErrClash, nil},
		// A fact with a gap is looked at no further.
		{facts(p(1, 9, 0), p(1, 9, 3)), api.OK, nil},
	} {
		o := taker(t, 7, base)
		was := len(o.Pages())
		n, e := o.Take(x.l)
		if e != x.want || e == api.OK && n != len(x.held) || e != api.OK && n != 0 || was != 2 {
			t.Error("Take", k, n, e)
		}
		holds(t, "behind Take", o, slices.Concat(base, x.held))
	}
}

func TestP8_13Full(t *testing.T) {
	full := manyFacts(api.MaxFacts + 2) // of the offices 1 to 6
	all := full[:api.MaxFacts]
	o := taker(t, 7, all[:api.MaxFacts-1])
	takes(t, "more than there may be", o, full[api.MaxFacts-1:], 0, api.ErrLimit, all)
	takes(t, "what is held", o, all, 0, api.OK, all)
	takes(t, "what is held otherwise", o, facts(policyFact(1, 1, 0, api.Policy{Base: 1})), 0, api.ErrClash, all)
	takes(t, "what is not valid", o, facts(api.Fact{}), 0, api.ErrArg, all)
	takes(t, "with a gap", o, full[api.MaxFacts+1:], 0, api.OK, all)
	takes(t, "more", o, full[api.MaxFacts:], 0, api.ErrLimit, all)
	// A fact that does not follow clashes, also if nothing can be added.
	o = taker(t, 7, facts(policyFact(7, 1, 5, api.Policy{})))
	rest := all[:api.MaxFacts-1]
	takes(t, "up to the last one", o, rest, len(rest), api.OK, slices.Concat(facts(policyFact(7, 1, 5, api.Policy{})), rest))
	if n, e := o.Take(facts(policyFact(7, 2, 4, api.Policy{}))); n != 0 || e != api.ErrClash {
		t.Error("Take", n, e)
	}
	if n, e := o.Take(facts(policyFact(7, 2, 5, api.Policy{}))); n != 0 || e != api.ErrLimit {
		t.Error("Take", n, e)
	}
}

func TestP8_14(t *testing.T) {
	l := chain()
	o := taker(t, 3, l)
	same(t, "Have", o.Have(), api.OK, []int{3, 3, 0, 0, 0, 0, 0, 1})
	same(t, "Facts", o.Facts(), api.OK, facts(l[1], l[5], l[6], l[0], l[2], l[4], l[3]))
	same(t, "Pages", o.Pages(), api.OK, pagesOf(l))
	for k, x := range []struct {
		have []int
		want []api.Fact
	}{
		{[]int{0, 0, 0, 0, 0, 0, 0, 0}, o.Facts()}, {o.Have(), nil}, {[]int{1, 2, 0, 0, 0, 0, 0, 0}, facts(l[5], l[6], l[4], l[3])}, {[]int{3, 0, 0, 0, 0, 0, 0, 1}, facts(l[0], l[2], l[4])},
		{[]int{60, 60, 60, 60, 60, 60, 60, 60}, nil}, {[]int{4, 1, 7, 1, 0, 0, 0, 0}, facts(l[2], l[4], l[3])}, {[]int{2, 60, 60, 0, 60, 1, 2, 60}, facts(l[6])},
	} {
		got, e := o.Since(x.have)
		same(t, "Since", got, e, x.want)
		if k == 0 {
			same(t, "Since nothing", got, e, sorted(l))
		}
	}
	for _, have := range [][]int{nil, {0}, make([]int, 7), make([]int, 9), {0, 0, 0, 0, 0, 0, 0, -1}, {61, 0, 0, 0, 0, 0, 0, 0}, {0, 0, 0, maxInt, 0, 0, 0, 0}, {0, minInt, 0, 0, 0, 0, 0, 0}} {
		got, e := o.Since(have)
		none(t, "Since", got, e, api.ErrArg)
	}
	holds(t, "an office without facts", opened(t, 1), nil)
	got, e := opened(t, 1).Since(make([]int, 8))
	same(t, "Since of an office without facts", got, e, nil)
}
