package tribunal_test

import (
	"regexp"
	"strconv"
	"strings"
	"testing"

	"patrol/api"
	"patrol/tribunal"
)

// changes are what can be set in a question, one field each.
func changes() map[string]func(q *api.Question) {
	return map[string]func(q *api.Question){
		"Dial":    func(q *api.Question) { q.Dial = 7 },
		"Place":   func(q *api.Question) { q.Place = "mill" },
		"Lo":      func(q *api.Question) { q.Span = span(1, 0) },
		"Hi":      func(q *api.Question) { q.Span = span(0, 1) },
		"Account": func(q *api.Question) { q.Account = -1 },
		"Before":  func(q *api.Question) { q.Before = 5 },
		"Office":  func(q *api.Question) { q.Name.Office = 1 },
		"No":      func(q *api.Question) { q.Name.No = 1 },
	}
}

// checks checks whether a question is valid.
func checks(t *testing.T, q api.Question, valid bool) {
	t.Helper()
	want := api.ErrArg
	if valid {
		want = api.OK
	}
	if e := tribunal.CheckQuestion(q); e != want {
		t.Error("CheckQuestion", q, e)
	}
	if valid != definedQuestion(q) {
		t.Error("the definition", q, valid)
	}
}

// validQuestions are questions of each kind, at the bounds of their fields.
func validQuestions() []api.Question {
	const long = "abcdefghijklmn09"
	return []api.Question{
		verdict(0, 1), verdict(api.MaxTime, api.MaxID), verdict(5, 7),
		missed(0, 1, "a"), missed(api.MaxTime, api.MaxID, long), when(0, 1, "z"), when(api.MaxTime, api.MaxID, "0"), who(0, 1, "9"), who(api.MaxTime, api.MaxID, long),
		placed(0, 1, "a", 0, 0), placed(api.MaxTime, api.MaxID, long, 0, api.MaxTime), placed(4, 5, "then", api.MaxTime, api.MaxTime),
		balance(0, api.AcHouse, 0, 0), balance(api.MaxTime, api.AcInsurer, 0, api.MaxNights-1), balance(7, 1, api.MaxNight-api.MaxNights+1, api.MaxNight), balance(7, api.MaxID, api.MaxNight, api.MaxNight),
		amend(0, 0, 0, 0), amend(0, api.MaxTime, 0, api.MaxNights-1), amend(api.MaxTime, 0, api.MaxNight, api.MaxNight), amend(5, 5, 3, 4),
		rests(0, 1, 1), rests(api.MaxTime, api.MaxOffices, api.MaxNo), rests(70000, 3, 1),
	}
}

func TestP9_1(t *testing.T) {
	for _, q := range validQuestions() {
		checks(t, q, true)
		for _, known := range []int{minInt, -1, api.MaxTime + 1, maxInt} {
			x := q
			x.Known = known
			checks(t, x, false)
		}
		for _, kind := range []int{minInt, -1, 0, 9, maxInt} {
			x := q
			x.Kind = kind
			checks(t, x, false)
		}
	}
	checks(t, api.Question{}, false)
}

// TestP9_1Fields sets fields that a kind does not have; "own" are those of a kind.
func TestP9_1Fields(t *testing.T) {
	own := map[int]string{api.QuVerdict: "Dial", api.QuMissed: "Dial Place", api.QuWhen: "Dial Place", api.QuWho: "Dial Place", api.QuPlaced: "Dial Place Lo Hi", api.QuBalance: "Account Lo Hi", api.QuAmend: "Before Lo Hi", api.QuRests: "Office No"}
	for _, q := range validQuestions() {
		for what, change := range changes() {
			x := q
			change(&x)
			if !strings.Contains(own[q.Kind], what) {
				checks(t, x, false)
			} else if what != "Lo" {
				checks(t, x, true)
			}
		}
	}
}

func TestP9_1Bounds(t *testing.T) {
	for _, n := range []int{minInt, -1, 0, api.MaxID + 1, maxInt} {
		for _, q := range []api.Question{verdict(5, n), missed(5, n, "mill"), when(5, n, "mill"), who(5, n, "mill"), placed(5, n, "mill", 0, 1)} {
			checks(t, q, false)
		}
	}
	for _, place := range []string{"", "abcdefghijklmnopq", "Mill", "mi ll", "mill\n", " mill", "mi-l", "m\x00", "é", "mill ", "a{", "a`", "a/", "a:"} {
		for _, q := range []api.Question{missed(5, 7, place), when(5, 7, place), who(5, 7, place), placed(5, 7, place, 0, 1)} {
			checks(t, q, false)
		}
	}
	for _, x := range []api.Span{span(-1, 0), span(-1, -1), span(1, 0), span(minInt, maxInt), span(maxInt, minInt), span(minInt, 0), span(0, maxInt)} {
		checks(t, placed(5, 7, "mill", x.Lo, x.Hi), false)
		checks(t, balance(5, 7, x.Lo, x.Hi), false)
		checks(t, amend(5, 7, x.Lo, x.Hi), false)
	}
	checks(t, placed(5, 7, "mill", 0, api.MaxTime+1), false)
	checks(t, placed(5, 7, "mill", api.MaxTime+1, api.MaxTime+1), false)
	for _, x := range []api.Span{span(0, api.MaxNights), span(7, 7+api.MaxNights), span(api.MaxNight-api.MaxNights, api.MaxNight), span(api.MaxNight, api.MaxNight+1), span(api.MaxNight+1, api.MaxNight+1)} {
		checks(t, balance(5, 7, x.Lo, x.Hi), false)
		checks(t, amend(5, 7, x.Lo, x.Hi), false)
	}
	for _, account := range []int{minInt, -3, 0, api.MaxID + 1, maxInt} {
		checks(t, balance(5, account, 0, 1), false)
	}
	for _, before := range []int{minInt, -1, api.MaxTime + 1, maxInt} {
		checks(t, amend(5, before, 0, 1), false)
	}
	for _, x := range []api.Name{name(0, 1), name(1, 0), name(-1, 1), name(1, -1), name(9, 1), name(1, 61), name(maxInt, minInt), {}} {
		checks(t, rests(5, x.Office, x.No), false)
	}
}

// wild returns a question that is often valid, and often just not.
func (c *chance) wild() api.Question {
	q := c.question(c.from(api.QuVerdict, api.QuRests))
	number := func() int {
		return c.pick(minInt, -3, -2, -1, 0, 1, 2, 8, 9, 60, 61, 399, 400, 401, api.MaxNight, api.MaxNight+1, api.MaxTime, api.MaxTime+1, api.MaxID, api.MaxID+1, maxInt)
	}
	for range c.n(3) {
		x := []*int{&q.Kind, &q.Known, &q.Dial, &q.Span.Lo, &q.Span.Hi, &q.Account, &q.Before, &q.Name.Office, &q.Name.No}[c.n(9)]
		*x = number()
	}
	if c.n(6) == 0 {
		q.Place = one(c, "", "a", "0", "A", "a b", "abcdefghijklmnop", "abcdefghijklmnopq", "a\n")
	}
	return q
}

func TestP9_1Chance(t *testing.T) {
	c, valid := chance(91), 0
	for range 20000 {
		q := c.wild()
		checks(t, q, definedQuestion(q))
		if definedQuestion(q) {
			valid++
		}
	}
	if valid < 2000 || valid > 18000 {
		t.Error("not an even test:", valid)
	}
}

func TestP9_5(t *testing.T) {
	for line, q := range map[string]api.Question{
		"verdict 4 7":                            verdict(4, 7),
		"missed 60000 7 mill":                    missed(60000, 7, "mill"),
		"when 60000 7 mill":                      when(60000, 7, "mill"),
		"who 0 1099511627776 0":                  who(0, api.MaxID, "0"),
		"placed 1073741823 7 gate1 0-1073741823": placed(api.MaxTime, 7, "gate1", 0, api.MaxTime),
		"placed 5 7 missed 8-8":                  placed(5, 7, "missed", 8, 8),
		"balance 70000 -1 3-3":                   balance(70000, api.AcHouse, 3, 3),
		"balance 70000 -2 0-399":                 balance(70000, api.AcInsurer, 0, 399),
		"balance 70000 9 20000-20000":            balance(70000, 9, api.MaxNight, api.MaxNight),
		"amend 70000 60000 3-4":                  amend(70000, 60000, 3, 4),
		"amend 0 0 0-0":                          amend(0, 0, 0, 0),
		"rests 70000 3 1":                        rests(70000, 3, 1),
		"rests 0 8 60":                           rests(0, 8, 60),
	} {
		text, e := tribunal.Print(q)
		same(t, "Print", text, e, line)
		got, e := tribunal.Parse(line)
		same(t, "Parse", got, e, q)
	}
}

func TestP9_5Errors(t *testing.T) {
	for _, q := range []api.Question{{}, verdict(-1, 7), verdict(5, 0), missed(5, 7, ""), missed(5, 7, "a b"), when(5, 7, "A"), who(5, 0, "a"), placed(5, 7, "a", 2, 1), balance(5, 0, 1, 1), amend(5, -1, 1, 1), rests(5, 0, 1), {Kind: 9, Known: 5}, {Kind: api.QuVerdict, Dial: 1, Account: 1}} {
		text, e := tribunal.Print(q)
		none(t, "Print", text, e, api.ErrArg)
	}
	for _, line := range []string{
		"", " ", "\n", "verdict", "verdict 4", "verdict 4 ", "verdict  4 7", " verdict 4 7", "verdict 4 7 ", "verdict 4 7\n", "verdict 4 7 8", "verdict 4 07", "verdict 04 7", "verdict +4 7", "verdict -4 7", "verdict -0 7", "verdict 4 0", "verdict 4 x", "verdict\t4 7", "verdict 4 1099511627777", "verdict 1073741824 7", "verdict 4 99999999999999999999", "verdict 4 0x7", "verdict 4 1_0",
		"Verdict 4 7", "verdic 4 7", "1 4 7", "7 4 verdict", "missed 4 7", "missed 4 7 Mill", "missed 4 7 mill mill", "missed 4 7 ", "missed 4 mill 7", "missed 4 7 abcdefghijklmnopq", "when 4 7", "who 4 mill",
		"placed 4 7 mill", "placed 4 7 mill 3", "placed 4 7 mill 3-", "placed 4 7 mill -3", "placed 4 7 mill 3-2", "placed 4 7 mill 3--4", "placed 4 7 mill 3-4-5", "placed 4 7 mill 03-4", "placed 4 7 mill 3 - 4", "placed 4 7 mill 3 4", "placed 4 7 mill +3-4", "placed 4 7 mill 0-1073741824", "placed 4 7 mill -1-4",
		"balance 4 0 3-3", "balance 4 -3 3-3", "balance 4 -1 0-400", "balance 4 -1 20000-20001", "balance 4 --1 3-3", "balance 4 - 3-3", "balance 4 -01 3-3", "amend 4 -1 3-3", "amend 4 5 0-400", "amend 4 3-3", "rests 4 0 1", "rests 4 9 1", "rests 4 1 61", "rests 4 1", "rests 4 1 1 1", "rests 4 1-1",
	} {
		q, e := tribunal.Parse(line)
		none(t, "Parse: "+line, q, e, api.ErrForm)
	}
}

// forms returns what the lines of each kind look like.
func forms() map[int]*regexp.Regexp {
	const n = `(-?[1-9][0-9]*|0)`
	const dial = n + " " + n
	const place = dial + ` ([a-z0-9]{1,16})`
	const x = ` (0|[1-9][0-9]*)-(0|[1-9][0-9]*)`
	all := map[int]*regexp.Regexp{}
	for kind, form := range map[int]string{
		api.QuVerdict: "verdict " + dial, api.QuMissed: "missed " + place, api.QuWhen: "when " + place, api.QuWho: "who " + place,
		api.QuPlaced: "placed " + place + x, api.QuBalance: "balance " + dial + x, api.QuAmend: "amend " + dial + x, api.QuRests: "rests " + dial + " " + n,
	} {
		all[kind] = regexp.MustCompile(`\A` + form + `\z`)
	}
	return all
}

// definedLine returns the question of a line; false if there is none.
func definedLine(forms map[int]*regexp.Regexp, line string) (api.Question, bool) {
	for kind, form := range forms {
		w := form.FindStringSubmatch(line)
		if w == nil {
			continue
		}
		number := func(k int) int {
			m, err := strconv.Atoi(w[k])
			if err != nil {
				return minInt // no field can have it
			}
			return m
		}
		q := api.Question{Kind: kind, Known: number(1)}
		switch kind {
		case api.QuVerdict:
			q.Dial = number(2)
		case api.QuMissed, api.QuWhen, api.QuWho:
			q.Dial, q.Place = number(2), w[3]
		case api.QuPlaced:
			q.Dial, q.Place, q.Span = number(2), w[3], span(number(4), number(5))
		case api.QuBalance:
			q.Account, q.Span = number(2), span(number(3), number(4))
		case api.QuAmend:
			q.Before, q.Span = number(2), span(number(3), number(4))
		case api.QuRests:
			q.Name = name(number(2), number(3))
		}
		return q, definedQuestion(q)
	}
	return api.Question{}, false
}

// spoilt returns a text in which something was changed, inserted or left out.
func (c *chance) spoilt(text string) string {
	k := c.n(len(text))
	b := one(c, " ", "0", "1", "9", "-", "a", "z", "\n", "+", "A", "_")
	switch c.n(4) {
	case 0:
		return text[:k] + text[k+1:]
	case 1:
		return text[:k] + b + text[k:]
	case 2:
		return text + b
	}
	return text[:k] + b + text[k+1:]
}

// TestP9_5Chance reads lines of which some were changed.
func TestP9_5Chance(t *testing.T) {
	c, right, wrong := chance(95), 0, 0
	all := forms()
	for range 20000 {
		line, e := tribunal.Print(c.question(c.from(api.QuVerdict, api.QuRests)))
		if e != api.OK {
			t.Fatal("Print", e)
		}
		for range c.n(3) {
			line = c.spoilt(line)
		}
		want, is := definedLine(all, line)
		q, e := tribunal.Parse(line)
		if is {
			right++
			same(t, "Parse: "+line, q, e, want)
		} else {
			wrong++
			none(t, "Parse: "+line, q, e, api.ErrForm)
		}
	}
	if min(right, wrong) < 4000 {
		t.Error("not an even test:", right, wrong)
	}
}

func TestP9_16(t *testing.T) {
	c := chance(916)
	lines := map[string]api.Question{}
	for range 5000 {
		q := c.wild()
		line, e := tribunal.Print(q)
		if !definedQuestion(q) {
			none(t, "Print", line, e, api.ErrArg)
			continue
		}
		got, f := tribunal.Parse(line)
		same(t, "Parse of Print", got, max(e, f), q)
		again, f := tribunal.Print(got)
		same(t, "Print of Parse", again, f, line)
		if other, is := lines[line]; is && other != q || strings.Contains(line, "\n") {
			t.Error("the line of two questions, or none", line)
		}
		lines[line] = q
	}
	for _, q := range validQuestions() {
		line, e := tribunal.Print(q)
		got, f := tribunal.Parse(line)
		same(t, "Parse of Print", got, max(e, f), q)
	}
}
