package order_test

import (
	"strings"
	"testing"

	"patrol/api"
	"patrol/order"
)

// textual checks that an order has a text.
func textual(t *testing.T, o api.Order, want string) {
	t.Helper()
	printed(t, o, want)
	if got := parsed(t, want); !isEqual(got, o) {
		t.Errorf("Parse: %q: %v, not %v", want, got, o)
	}
}

func TestP4_2Texts(t *testing.T) {
	a, b, c, any := visit("a"), visit("b"), visit("c"), anyGap()
	textual(t, a, "a")
	textual(t, visit("0a"), "0a")
	textual(t, visit("thens"), "thens")
	textual(t, visit("abcdefghijklmnop"), "abcdefghijklmnop")
	textual(t, each("b", "a"), "each(b, a)")
	textual(t, each("d", "c", "b", "a"), "each(d, c, b, a)")
	textual(t, then(a, any, b), "a then b")
	textual(t, then(a, span(0, 0), b), "a then after 0 to 0 b")
	textual(t, then(a, span(1, api.MaxGap), b), "a then after 1 to 86400 b")
	textual(t, then(a, span(0, api.MaxGap-1), b), "a then after 0 to 86399 b")
	textual(t, then(then(a, any, b), span(3, 9), c), "a then b then after 3 to 9 c")
	textual(t, then(a, any, then(b, any, c)), "a then (b then c)")
	textual(t, either(either(a, b), c), "a or b or c")
	textual(t, either(a, either(b, c)), "a or (b or c)")
	textual(t, either(then(a, any, b), then(b, any, a)), "a then b or b then a")
	textual(t, then(either(a, b), any, either(b, a)), "(a or b) then (b or a)")
	textual(t, within(within(a, 5), 3), "a within 5 within 3")
	textual(t, within(then(a, any, b), 86399), "(a then b) within 86399")
	textual(t, within(either(a, b), 0), "(a or b) within 0")
	textual(t, within(times(1, 2, any, a), 9), "times 1 to 2 a within 9")
	textual(t, times(1, 2, any, within(a, 9)), "times 1 to 2 (a within 9)")
	textual(t, within(each("a", "b"), 9), "each(a, b) within 9")
	textual(t, then(within(a, 1), any, within(b, 2)), "a within 1 then b within 2")
	textual(t, either(within(a, 1), within(b, 2)), "a within 1 or b within 2")
	textual(t, times(1, 1, any, times(2, 6, span(3, 9), each("a", "b"))), "times 1 to 1 times 2 to 6 after 3 to 9 each(a, b)")
	textual(t, times(1, 1, any, then(a, any, b)), "times 1 to 1 (a then b)")
	textual(t, times(1, 1, any, either(a, b)), "times 1 to 1 (a or b)")
	textual(t, then(times(2, 3, any, a), any, times(2, 3, any, b)), "times 2 to 3 a then times 2 to 3 b")
	textual(t, then(within(each("a", "b"), 4), span(2, 3), within(times(2, 2, any, then(a, any, b)), 7)), "each(a, b) within 4 then after 2 to 3 times 2 to 2 (a then b) within 7")
}

// TestP4_2Spaces reads sources that Print would not write.
func TestP4_2Spaces(t *testing.T) {
	a, b, c, any := visit("a"), visit("b"), visit("c"), anyGap()
	for source, want := range map[string]api.Order{
		"  \n a\n ": a, "((a))": a, "(((a)or(b)))": either(a, b), "each ( a ,b )": each("a", "b"), "each\n(a,\nb)": each("a", "b"), "each(a,b)or c": either(each("a", "b"), c), "a or(b)": either(a, b),
		"a then after 0 to 86400 b": then(a, any, b), "times 1 to 2 after 0 to 86400 a": times(1, 2, any, a), "(a or b) or c": either(either(a, b), c), "(a then b) then c": then(then(a, any, b), any, c),
		"(a within 5)within 3": within(within(a, 5), 3), "a then(b)then c": then(then(a, any, b), any, c), "(a then b) or c": either(then(a, any, b), c), "times 1 to 2(a)": times(1, 2, any, a), "(times 1 to 2 a) within 0": within(times(1, 2, any, a), 0),
	} {
		if got := parsed(t, source); !isEqual(got, want) {
			t.Errorf("Parse: %q: %v, not %v", source, got, want)
		}
	}
	parsed(t, strings.Repeat("(", 999)+"a"+strings.Repeat(")", 999))
	parsed(t, strings.Repeat(" ", api.MaxSource-1)+"a")
}

// TestP4_2Limit checks the first error of Parse.
func TestP4_2Limit(t *testing.T) {
	for _, source := range []string{strings.Repeat(" ", api.MaxSource) + "a", "a" + strings.Repeat("\n", api.MaxSource), strings.Repeat("?", api.MaxSource+1), strings.Repeat("(", 1<<20)} {
		failed(t, source, api.ErrLimit, 0)
	}
	malformed(t, strings.Repeat("?", api.MaxSource), 0)
	malformed(t, strings.Repeat("(", api.MaxSource), api.MaxSource)
}

// TestP4_2Bytes checks the second error of Parse, which comes ahead of all others.
func TestP4_2Bytes(t *testing.T) {
	for b := range 256 {
		s := string([]byte{byte(b)})
		if !strings.Contains("abcdefghijklmnopqrstuvwxyz0123456789(), \n", s) {
			malformed(t, s, 0)
			malformed(t, "then) a"+s, 7)
			malformed(t, "a "+s+" b "+s, 2)
			malformed(t, "a"+s+"abcdefghijklmnopq", 1)
			malformed(t, "abcdefghijklmnop abcdefghijklmnopq "+s, 17)
		}
	}
	malformed(t, "a within -1", 9)
	malformed(t, "abcdefghijklmnopq", 0)
	malformed(t, "a then (00000000000000005", 8)
	malformed(t, "times times times abcdefghijklmnopqr", 18)
	malformed(t, "a within 10000000000000000000000", 9)
	malformed(t, strings.Repeat("a", api.MaxSource), 0)
}

// TestP4_2Tokens checks the third error of Parse.
func TestP4_2Tokens(t *testing.T) {
	for source, index := range map[string]int{
		"": 0, " ": 1, " \n ": 3, "a then": 6, "a then ": 7, "a or": 4, "a within": 8, "(a": 2, "(": 1, "each": 4, "each(": 5, "each(a": 6, "each(a,": 7, "times": 5, "times 1": 7, "times 1 to": 10, "times 1 to 2": 12, "times 1 to 2 after": 18, "times 1 to 2 after 3 to 4 ": 26, "a then after 3 to": 17,
		"a b": 2, "a (": 2, "a)": 1, "()": 1, ")": 0, ",": 0, "a, b": 1, "5": 0, "086": 0, "a then 5": 7, "then": 0, "after": 0, "to": 0, "within": 0, "or": 0, "a or or b": 5, "a or then": 5, "a after 3 to 4 b": 2, "a to b": 2, "a each(a, b)": 2, "a times 1 to 2 a": 2,
		"a within b": 9, "a within 05": 9, "a within 00": 9, "a within 86401": 9, "a within 5a": 9, "a within then": 9, "a within (5)": 9, "a within 5 6": 11, "a within 9223372036854775": 9, "a then after b": 13, "a then after 086400 to 5 b": 13, "a then after 5 b": 15, "a then after 5 to b": 18, "a then after 5 to 86401 b": 18,
		"a then after 5 to 6": 19, "a then after 5 to 6 then": 20, "a or after 5 to 6 b": 5, "times a": 6, "times 01 to 2 a": 6, "times 1 a": 8, "times 1 to 2 then": 13, "times 1 to 2 5": 13, "times 1 to 2 a a": 15, "times 86401 to 2 a": 6,
		"each a": 5, "each()": 5, "each(a b)": 7, "each(a,)": 7, "each(a, then)": 8, "each(a, 5)": 8, "each(a, (b))": 8, "each((a), b)": 5, "each(a or b)": 7, "each then": 5, "(a then) b": 7, "((a)": 4, "((a)))": 5, "(a) b": 4, "each(a, b) c": 11, "a within 5 b": 11,
	} {
		malformed(t, source, index)
	}
}

// TestP4_2Check checks the last error of Parse, that of Check.
func TestP4_2Check(t *testing.T) {
	for _, source := range []string{"each(a)", "each(a, a)", "each(a, b, c, d, e)", "a within 86400", "a then after 6 to 5 b", "times 0 to 2 a", "times 3 to 2 a", "times 1 to 7 a", "times 1 to 2 after 9 to 8 a", "b then each(a)"} {
		failed(t, source, api.ErrForm, 0)
	}
	for _, source := range []string{"a" + strings.Repeat(" within 5", 10), strings.Repeat("a or ", 10) + "a", strings.Repeat("a then ", 200) + "a", strings.Repeat("times 1 to 1 ", 100) + "a", "each(a, b, c) then (each(d, e, f) then each(g, h, i))", "times 6 to 6 times 6 to 6 a"} {
		failed(t, source, api.ErrLimit, 0)
	}
	failed(t, "each(a)"+strings.Repeat(" within 5", 10), api.ErrLimit, 0)
	failed(t, "each(a) then times 6 to 6 times 6 to 6 a", api.ErrForm, 0)
}

// productions returns the grammar: what each of its words can be replaced by. A word that is not in it is a token, or one of the classes NAME and NUMBER.
func productions() map[string][]string {
	return map[string][]string{
		"ORDER": {"PART ORS"}, "ORS": {"", "or PART ORS"},
		"PART": {"STEP THENS"}, "THENS": {"", "then GAP STEP THENS"},
		"STEP": {"BASE WITHINS"}, "WITHINS": {"", "within NUMBER WITHINS"},
		"BASE": {"NAME", "( ORDER )", "each ( NAME NAMES )", "times NUMBER to NUMBER GAP BASE"},
		"GAP":  {"", "after NUMBER to NUMBER"}, "NAMES": {"", ", NAME NAMES"},
	}
}

// isOf reports whether a word of the grammar that has no productions stands for a token.
func isOf(word, token string) bool {
	switch word {
	case "NAME":
		return strings.Contains(" a b 5x ", " "+token+" ")
	case "NUMBER":
		return strings.Contains(" 0 5 86400 ", " "+token+" ")
	}
	return word == token
}

// behind returns all that can follow behind a token, if some lists of words can follow ahead of it.
func behind(stacks map[string]bool, token string) map[string]bool {
	grammar, next := productions(), map[string]bool{}
	var left []string
	for s := range stacks {
		left = append(left, s)
	}
	for len(left) > 0 {
		l := words(left[0])
		left = left[1:]
		if len(l) == 0 {
			continue
		}
		rest := strings.Join(l[1:], " ")
		if isOf(l[0], token) {
			next[rest] = true
		}
		for _, x := range grammar[l[0]] {
			left = append(left, x+" "+rest)
		}
	}
	return next
}

// isEmpty reports whether some list of words can be that of no tokens.
func isEmpty(stacks map[string]bool) bool {
	for s := range stacks {
		empty := true
		for _, word := range words(s) {
			empty = empty && strings.Contains(" ORS THENS WITHINS GAP NAMES ", " "+word+" ")
		}
		if empty {
			return true
		}
	}
	return false
}

// TestP4_2Grammar reads sources of random tokens, and looks for the first token that cannot stand where it does by following all ways through the grammar at once.
func TestP4_2Grammar(t *testing.T) {
	alphabet := words("a b 5x 0 5 86400 086 86401 then after to within or each times ( ) ,")
	c, right := chance(42), 0
	for range 6000 {
		stacks, source, index := map[string]bool{"ORDER": true}, "", -1
		for range c.from(1, 12) {
			token := alphabet[c.n(len(alphabet))]
			if c.n(12) > 0 { // a token that can stand here, as far as some attempts find one
				for range 60 {
					if len(behind(stacks, token)) > 0 {
						break
					}
					token = alphabet[c.n(len(alphabet))]
				}
			}
			if index < 0 {
				stacks = behind(stacks, token)
				if len(stacks) == 0 {
					index = len(source)
				}
			}
			source += token + []string{" ", "\n", "  "}[c.n(3)]
		}
		if index < 0 && !isEmpty(stacks) {
			index = len(source)
		}
		o, e, at := order.Parse(source)
		switch {
		case index >= 0:
			malformed(t, source, index)
		case at != 0 || e == api.OK && order.Check(o) != api.OK:
			t.Errorf("Parse: %q: %v %d %d", source, o, e, at)
		case e == api.OK:
			right++
		}
	}
	if right < 200 {
		t.Error("not an even test:", right)
	}
}

func TestP4_2Names(t *testing.T) {
	for _, name := range []string{"then", "after", "to", "within", "or", "each", "times", "0", "5", "0123456789012345"} {
		for _, o := range []api.Order{visit(name), each("a", name), then(visit("a"), anyGap(), within(visit(name), 5))} {
			if text, e := order.Print(o); text != "" || e != api.ErrForm {
				t.Errorf("Print: %v: %q %d", o, text, e)
			}
		}
	}
	for _, name := range []string{"the", "thena", "0to", "to0", "a", "5x", "x5"} {
		printed(t, visit(name), name)
	}
}

// TestP4_11 prints random orders, and reads them.
func TestP4_11(t *testing.T) {
	c := chance(411)
	for range 3000 {
		o := c.order(c.from(1, 6), c.from(1, 5))
		text, e := order.Print(o)
		if e != api.OK || len(text) > api.MaxSource {
			t.Error("Print", o, text, e)
		}
		textual(t, o, text)
	}
}

// TestP4_11Edits changes a source; what Parse takes has a text, and is read the same again.
func TestP4_11Edits(t *testing.T) {
	taken := 0
	for _, text := range []string{exampleSource, "each(a, b) within 5 or times 1 to 2 after 3 to 9 (c then a) within 7"} {
		for k := range len(text) + 1 {
			for _, x := range []string{"", "0", "1", "9", " ", "\n", "(", ")", ",", "a", "t", "or", " or a", "?"} {
				for _, s := range []string{text[:k] + x + text[k:], text[:k] + x + text[min(k+1, len(text)):]} {
					o, e, at := order.Parse(s)
					if e != api.OK {
						if at < 0 || at > len(s) || !isEqual(o, api.Order{}) {
							t.Errorf("Parse: %q: %v %d %d", s, o, e, at)
						}
						continue
					}
					taken++
					again, e := order.Print(o)
					textual(t, o, again)
					if e != api.OK || at != 0 {
						t.Errorf("Print: %q: %q %d", s, again, e)
					}
				}
			}
		}
	}
	if taken < 500 {
		t.Error("not an even test:", taken)
	}
}
