package order

import (
	"slices"
	"strconv"
	"strings"

	"patrol/api"
)

// The levels of nodes, by which parentheses are set.
const (
	eitherLevel = iota
	thenLevel
	withinLevel
	baseLevel
)

// level returns the level of a node.
func level(o api.Order) int {
	switch o.Kind {
	case api.OrEither:
		return eitherLevel
	case api.OrThen:
		return thenLevel
	case api.OrWithin:
		return withinLevel
	}
	return baseLevel
}

// spanTokens returns the tokens of two numbers with the word "to" between them.
func spanTokens(x api.Span) []string {
	return []string{strconv.Itoa(x.Lo), toWord, strconv.Itoa(x.Hi)}
}

// gapTokens returns the tokens of a gap; none if it allows everything.
func gapTokens(x api.Span) []string {
	if x == anyGap() {
		return nil
	}
	return slices.Concat([]string{afterWord}, spanTokens(x))
}

// eachTokens returns the tokens of OrEach.
func eachTokens(names []string) []string {
	l := []string{eachWord, openMark}
	for k, x := range names {
		if k > 0 {
			l = append(l, commaMark)
		}
		l = append(l, x)
	}
	return append(l, closeMark)
}

// kidTokens returns the tokens of a kid at a place that asks for a level.
func kidTokens(o api.Order, least int) []string {
	l := tokensOf(o)
	if level(o) < least {
		return slices.Concat([]string{openMark}, l, []string{closeMark})
	}
	return l
}

// tokensOf returns the tokens of an order's text.
func tokensOf(o api.Order) []string {
	switch o.Kind {
	case api.OrEach:
		return eachTokens(o.Names)
	case api.OrThen:
		return slices.Concat(kidTokens(o.Kids[0], thenLevel), []string{thenWord}, gapTokens(o.Gap), kidTokens(o.Kids[1], withinLevel))
	case api.OrEither:
		return slices.Concat(kidTokens(o.Kids[0], eitherLevel), []string{orWord}, kidTokens(o.Kids[1], thenLevel))
	case api.OrWithin:
		return slices.Concat(kidTokens(o.Kids[0], withinLevel), []string{withinWord, strconv.Itoa(o.Most)})
	case api.OrTimes:
		span := spanTokens(api.Span{Lo: o.Lo, Hi: o.Hi})
		return slices.Concat([]string{timesWord}, span, gapTokens(o.Gap), kidTokens(o.Kids[0], baseLevel))
	}
	return o.Names
}

// isApart reports whether a blank stands between two tokens.
func isApart(a, b string) bool {
	return a != openMark && b != closeMark && b != commaMark && (a != eachWord || b != openMark)
}

// Print returns the text of an order; ErrForm if it has a name that cannot stand in a source.
func Print(o api.Order) (string, api.Errno) {
	if e := Check(o); e != api.OK {
		return "", e
	}
	for _, x := range namesOf(o) {
		if !isFree(x) {
			return "", api.ErrForm
		}
	}
	l := tokensOf(o)
	var s strings.Builder
	for k, x := range l {
		if k > 0 && isApart(l[k-1], x) {
			s.WriteString(" ")
		}
		s.WriteString(x)
	}
	return s.String(), api.OK
}
