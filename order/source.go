package order

import (
	"iter"
	"strconv"

	"patrol/api"
)

// The reserved words and the marks of sources.
const (
	thenWord   = "then"
	afterWord  = "after"
	toWord     = "to"
	withinWord = "within"
	orWord     = "or"
	eachWord   = "each"
	timesWord  = "times"
	openMark   = "("
	closeMark  = ")"
	commaMark  = ","
)

// anyGap returns the gap that allows everything, which is not written.
func anyGap() api.Span { return api.Span{Hi: api.MaxGap} }

// token is a token of a source, and the index of its first byte.
type token struct {
	text string
	at   int
}

// tokens yields the tokens of a source; it panics at a byte that is not part of one, and at a word that is too long.
func tokens(source string) iter.Seq[token] {
	return func(yield func(token) bool) {
		for at := 0; at < len(source); {
			text := source[at : at+1]
			switch text {
			case " ", "\n":
				at++
				continue
			case openMark, closeMark, commaMark:
			default:
				text = wordOf(source[at:])
				if !isName(text) {
					panic(halt{api.ErrForm, at})
				}
			}
			if !yield(token{text, at}) {
				return
			}
			at += len(text)
		}
	}
}

// isReserved reports whether a word is reserved.
func isReserved(word string) bool {
	switch word {
	case thenWord, afterWord, toWord, withinWord, orWord, eachWord, timesWord:
		return true
	}
	return false
}

// isFree reports whether a word is a name in a source.
func isFree(word string) bool {
	for k := range len(word) {
		if !isDigit(word[k]) {
			return isName(word) && !isReserved(word)
		}
	}
	return false
}

// parser reads the tokens of a source, one after the other, and panics at the first one that cannot stand where it does.
type parser struct {
	left []token
	end  int // the length of the source
}

// next returns the text of the next token; the empty string if there is none.
func (p *parser) next() string {
	if len(p.left) == 0 {
		return ""
	}
	return p.left[0].text
}

// take goes on behind the next token if this is right; otherwise it panics. It returns the token's text.
func (p *parser) take(right bool) string {
	if len(p.left) == 0 {
		panic(halt{api.ErrForm, p.end})
	}
	x := p.left[0]
	if !right {
		panic(halt{api.ErrForm, x.at})
	}
	p.left = p.left[1:]
	return x.text
}

// skip goes on behind the next token if it has a text, and reports whether it has.
func (p *parser) skip(text string) bool {
	is := p.next() == text
	if is {
		p.take(true)
	}
	return is
}

// need goes on behind the next token, which must have a text.
func (p *parser) need(text string) { p.take(p.next() == text) }

func (p *parser) name() string { return p.take(isFree(p.next())) }

func (p *parser) number() int {
	word := p.next()
	n, err := strconv.Atoi(word)
	p.take(err == nil && strconv.Itoa(n) == word && n <= api.MaxGap)
	return n
}

// span reads two numbers with the word "to" between them.
func (p *parser) span() api.Span {
	lo := p.number()
	p.need(toWord)
	hi := p.number()
	return api.Span{Lo: lo, Hi: hi}
}

// gap reads a gap, which may be missing.
func (p *parser) gap() api.Span {
	if !p.skip(afterWord) {
		return anyGap()
	}
	return p.span()
}

func (p *parser) order() api.Order {
	o := p.part()
	for p.skip(orWord) {
		next := p.part()
		o = api.Order{Kind: api.OrEither, Kids: []api.Order{o, next}}
	}
	return o
}

func (p *parser) part() api.Order {
	o := p.step()
	for p.skip(thenWord) {
		gap := p.gap()
		next := p.step()
		o = api.Order{Kind: api.OrThen, Gap: gap, Kids: []api.Order{o, next}}
	}
	return o
}

func (p *parser) step() api.Order {
	o := p.base()
	for p.skip(withinWord) {
		most := p.number()
		o = api.Order{Kind: api.OrWithin, Most: most, Kids: []api.Order{o}}
	}
	return o
}

func (p *parser) base() api.Order {
	switch {
	case p.skip(openMark):
		o := p.order()
		p.need(closeMark)
		return o
	case p.skip(eachWord):
		return api.Order{Kind: api.OrEach, Names: p.list()}
	case p.skip(timesWord):
		x := p.span()
		gap := p.gap()
		kid := p.base()
		return api.Order{Kind: api.OrTimes, Gap: gap, Lo: x.Lo, Hi: x.Hi, Kids: []api.Order{kid}}
	}
	return api.Order{Kind: api.OrVisit, Names: []string{p.name()}}
}

// list reads the names of OrEach in their parentheses.
func (p *parser) list() []string {
	p.need(openMark)
	l := []string{p.name()}
	for p.skip(commaMark) {
		l = append(l, p.name())
	}
	p.need(closeMark)
	return l
}

// read returns the order of a source by the grammar; it panics if there is none.
func read(source string) api.Order {
	p := parser{end: len(source)}
	for x := range tokens(source) {
		p.left = append(p.left, x)
	}
	o := p.order()
	if len(p.left) > 0 {
		p.take(false)
	}
	return o
}

// Parse returns the order of a source, or an error and its index.
func Parse(source string) (o api.Order, e api.Errno, at int) {
	if len(source) > api.MaxSource {
		return api.Order{}, api.ErrLimit, 0
	}
	defer func() {
		if x, is := recover().(halt); is {
			o, e, at = api.Order{}, x.e, x.at
		}
	}()
	o = read(source)
	if e := Check(o); e != api.OK {
		return api.Order{}, e, 0
	}
	return o, api.OK, 0
}
