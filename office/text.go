package office

import (
	"slices"
	"strconv"
	"strings"

	"patrol/api"
	"patrol/custody"
	"patrol/dial"
	"patrol/house"
	"patrol/order"
)

// The words with which lines begin.
const (
	pageWord     = "page"
	factWord     = "fact"
	settingWord  = "setting"
	inkWord      = "ink"
	keyWord      = "key"
	stationWord  = "station"
	dialWord     = "dial"
	crewWord     = "crew"
	sessionWord  = "session"
	stopWord     = "stop"
	orderWord    = "order"
	lookWord     = "look"
	policyWord   = "policy"
	withdrawWord = "withdraw"
)

// numberWords returns the words of some numbers.
func numberWords(numbers ...int) []string {
	var l []string
	for _, n := range numbers {
		l = append(l, strconv.Itoa(n))
	}
	return l
}

// spanWords returns the words of some spans.
func spanWords(spans ...api.Span) []string {
	var l []string
	for _, x := range spans {
		l = append(l, strconv.Itoa(x.Lo)+"-"+strconv.Itoa(x.Hi))
	}
	return l
}

// lineOf returns the line of a word, and of further ones.
func lineOf(word string, more ...string) string {
	return strings.Join(slices.Concat([]string{word}, more), " ") + "\n"
}

// settingLines returns the lines of the setting of a fact.
func settingLines(f api.Fact) string {
	s := f.Setting
	text := lineOf(settingWord, numberWords(s.Since)...) + lineOf(inkWord, numberWords(s.Ink.Faint, s.Ink.Stray, s.Ink.Slip)...)
	for _, x := range s.Keys {
		text += lineOf(keyWord, numberWords(x.ID, x.Track, x.Pattern)...)
	}
	for _, x := range s.Stations {
		text += lineOf(stationWord, x.Name, strconv.Itoa(x.Key), strconv.Itoa(x.Room))
	}
	rest, _ := house.Print(s.House)
	return text + rest
}

// dialLines returns the lines of the dial of a fact.
func dialLines(f api.Fact) string {
	d := f.Dial
	x := d.Session
	text := lineOf(dialWord, numberWords(d.No, d.Night, d.Round, d.Start, d.Since)...) + lineOf(crewWord, numberWords(d.Crew...)...)
	text += lineOf(sessionWord, slices.Concat(numberWords(x.ID), spanWords(x.In, x.Out, x.Zero, x.End, x.Rate))...)
	for _, stop := range x.Stops {
		text += lineOf(stopWord, slices.Concat(numberWords(stop.At), spanWords(stop.Secs))...)
	}
	source, _ := order.Print(d.Order)
	return text + lineOf(orderWord, source)
}

// lookLines returns the lines of the look of a fact.
func lookLines(f api.Fact) string {
	rest, _ := dial.Print(f.Look.Marks)
	return lineOf(lookWord, numberWords(f.Look.Dial, f.Look.Reader)...) + rest
}

// policyLines returns the lines of the policy of a fact.
func policyLines(f api.Fact) string {
	p := f.Policy
	return lineOf(policyWord, numberWords(p.Since, p.Base, p.Credit, p.Charge, p.Doubt, p.Cap, p.Bonus)...)
}

// custodyLines returns the lines of the custody book of a fact.
func custodyLines(f api.Fact) string {
	text, _ := custody.Print(f.Custody)
	return text
}

// withdrawalLines returns the lines of the target of a fact.
func withdrawalLines(f api.Fact) string {
	return lineOf(withdrawWord, numberWords(f.Target.Office, f.Target.No)...)
}

// Encode returns the text of a fact.
func Encode(f api.Fact) (string, api.Errno) {
	if e := CheckFact(f); e != api.OK {
		return "", e
	}
	return lineOf(factWord, numberWords(f.Office, f.No, f.Known, f.Kind)...) + kinds()[f.Kind].lines(f), api.OK
}

// sumOf returns the sum of a text.
func sumOf(text string) int {
	sum := 0
	for k := range len(text) {
		sum = (31*sum + int(text[k]) + 1) % api.SumMod
	}
	return sum
}

// Page returns the page with a number that has a fact.
func Page(n int, f api.Fact) (string, api.Errno) {
	if !isIn(n, 1, api.MaxFacts) {
		return "", api.ErrArg
	}
	text, e := Encode(f)
	if e != api.OK {
		return "", e
	}
	return lineOf(pageWord, numberWords(n, len(text), sumOf(text))...) + text, api.OK
}

// factOn returns the fact of the page with a number; false if it is not whole.
func factOn(page string, n int) (api.Fact, bool) {
	_, text, _ := strings.Cut(page, "\n")
	f, e := Decode(text)
	if e != api.OK {
		return api.Fact{}, false
	}
	again, _ := Page(n, f)
	return f, again == page
}
