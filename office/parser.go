package office

import (
	"strconv"
	"strings"

	"patrol/api"
	"patrol/custody"
	"patrol/dial"
	"patrol/house"
	"patrol/order"
)

// unreadable is what a parser panics with.
type unreadable struct{}

// need panics unless something is right.
func need(right bool) {
	if !right {
		panic(unreadable{})
	}
}

// parser reads the lines of a text, one after the other; it panics at what it cannot read. What it reads need not be valid.
type parser struct{ left string }

// isNext reports whether the next line begins with a word.
func (p *parser) isNext(word string) bool { return strings.HasPrefix(p.left, word+" ") }

// line goes on behind the next line, which begins with a word, and returns what comes behind this word.
func (p *parser) line(word string) string {
	need(p.isNext(word))
	line, left, _ := strings.Cut(p.left, "\n")
	p.left = left
	return line[len(word)+1:]
}

// words reads a line that has n words behind the first one.
func (p *parser) words(word string, n int) []string {
	l := strings.SplitN(p.line(word), " ", n+1)
	need(len(l) == n)
	return l
}

// number returns the number of a word.
func number(word string) int {
	n, err := strconv.Atoi(word)
	need(err == nil)
	return n
}

// numbers returns the numbers of some words.
func numbers(words []string) []int {
	var l []int
	for _, word := range words {
		l = append(l, number(word))
	}
	return l
}

// spanOf returns the span of a word.
func spanOf(word string) api.Span {
	lo, hi, _ := strings.Cut(word, "-")
	return api.Span{Lo: number(lo), Hi: number(hi)}
}

// rest goes to the end of the text, and returns what was left.
func (p *parser) rest() string {
	text := p.left
	p.left = ""
	return text
}

// readSetting reads the setting of a fact.
func readSetting(p *parser, f *api.Fact) {
	s := &f.Setting
	s.Since = number(p.line(settingWord))
	ink := numbers(p.words(inkWord, 3))
	s.Ink = api.Ink{Faint: ink[0], Stray: ink[1], Slip: ink[2]}
	for p.isNext(keyWord) {
		n := numbers(p.words(keyWord, 3))
		s.Keys = append(s.Keys, api.Key{ID: n[0], Track: n[1], Pattern: n[2]})
	}
	for p.isNext(stationWord) {
		l := p.words(stationWord, 3)
		s.Stations = append(s.Stations, api.Station{Name: l[0], Key: number(l[1]), Room: number(l[2])})
	}
	h, e := house.Parse(p.rest())
	need(e == api.OK)
	s.House = h
}

// readSession reads the session of a dial.
func readSession(p *parser) api.Session {
	l := p.words(sessionWord, 6)
	x := api.Session{ID: number(l[0]), In: spanOf(l[1]), Out: spanOf(l[2]), Zero: spanOf(l[3]), End: spanOf(l[4]), Rate: spanOf(l[5])}
	for p.isNext(stopWord) {
		l := p.words(stopWord, 2)
		x.Stops = append(x.Stops, api.Stop{At: number(l[0]), Secs: spanOf(l[1])})
	}
	return x
}

// readDial reads the dial of a fact.
func readDial(p *parser, f *api.Fact) {
	n := numbers(p.words(dialWord, 5))
	f.Dial = api.Dial{No: n[0], Night: n[1], Round: n[2], Start: n[3], Since: n[4]}
	f.Dial.Crew = numbers(strings.SplitN(p.line(crewWord), " ", api.MaxCrew+1))
	f.Dial.Session = readSession(p)
	o, e, _ := order.Parse(p.line(orderWord))
	need(e == api.OK)
	f.Dial.Order = o
}

// readLook reads the look of a fact.
func readLook(p *parser, f *api.Fact) {
	n := numbers(p.words(lookWord, 2))
	marks, e := dial.Parse(p.rest())
	need(e == api.OK)
	f.Look = api.Look{Dial: n[0], Reader: n[1], Marks: marks}
}

// readPolicy reads the policy of a fact.
func readPolicy(p *parser, f *api.Fact) {
	n := numbers(p.words(policyWord, 7))
	f.Policy = api.Policy{Since: n[0], Base: n[1], Credit: n[2], Charge: n[3], Doubt: n[4], Cap: n[5], Bonus: n[6]}
}

// readCustody reads the custody book of a fact.
func readCustody(p *parser, f *api.Fact) {
	c, e := custody.Parse(p.rest())
	need(e == api.OK)
	f.Custody = c
}

// readWithdrawal reads the target of a fact.
func readWithdrawal(p *parser, f *api.Fact) {
	n := numbers(p.words(withdrawWord, 2))
	f.Target = api.Name{Office: n[0], No: n[1]}
}

// read returns the fact that a text tells, which need not be valid, and may have another text; ErrForm if it tells none.
func read(text string) (f api.Fact, e api.Errno) {
	defer func() {
		thrown := recover()
		if thrown == nil {
			return
		}
		if _, own := thrown.(unreadable); !own {
			panic(thrown)
		}
		f, e = api.Fact{}, api.ErrForm
	}()
	p := &parser{text}
	n := numbers(p.words(factWord, 4))
	f = api.Fact{Office: n[0], No: n[1], Known: n[2], Kind: n[3]}
	k, is := kinds()[f.Kind]
	need(is)
	k.read(p, &f)
	return f, api.OK
}

// Decode returns the fact of a text.
func Decode(text string) (api.Fact, api.Errno) {
	f, e := read(text)
	if e != api.OK {
		return api.Fact{}, e
	}
	// Only what Encode would write counts: not a number with a sign or a zero too many, a last line without its end, or more lines.
	if again, e := Encode(f); e != api.OK || again != text {
		return api.Fact{}, api.ErrForm
	}
	return f, api.OK
}
