package order_test

import (
	"cmp"
	"slices"
	"strconv"
	"strings"
	"testing"

	"patrol/api"
	"patrol/order"
)

// nearby returns lists like one of some lists, and quite others.
func (c *chance) nearby(all [][]string) [][]string {
	l := [][]string{nil}
	for range 10 {
		x := slices.Clone(all[c.n(len(all))])
		k := c.n(len(x))
		l = append(l, x, x[:k], slices.Insert(slices.Clone(x), k, string(rune('a'+c.n(5)))), slices.Delete(slices.Clone(x), k, k+1), c.shuffled(slices.Clone(x)))
		x = slices.Clone(x)
		x[k] = []string{"a", "b", "c", "d", "e", "", "A"}[c.n(7)]
		l = append(l, x)
	}
	return l
}

// contains reports whether a list is among lists that are sorted as lists returns them.
func contains(all [][]string, l []string) bool {
	return slices.ContainsFunc(all, func(x []string) bool { return slices.Equal(x, l) })
}

// followers returns the names that can follow a list in a language.
func followers(all [][]string, l []string) []string {
	next := map[string]bool{}
	for _, x := range all {
		if len(x) > len(l) && slices.Equal(x[:len(l)], l) {
			next[x[len(l)]] = true
		}
	}
	var names []string
	for name := range next {
		names = append(names, name)
	}
	slices.Sort(names)
	return names
}

// TestP4_7 compares Accepts, Next and Count with the lists of languages, and these with the definition.
func TestP4_7(t *testing.T) {
	c := chance(47)
	ordersWithLists(t, 470, 300, func(o api.Order, all [][]string) {
		for _, l := range c.nearby(all) {
			is, e := order.Accepts(o, l)
			if want := contains(all, l); is != want || e != api.OK || want != accepts(o, l) {
				t.Error("Accepts", textOf(o), l, is, e)
			}
			next, e := order.Next(o, l)
			same(t, "Next: "+textOf(o)+": "+strings.Join(l, " "), next, followers(all, l), e)
		}
		for n := range api.MaxCount + 1 {
			want := 0
			for _, l := range all {
				if len(l) == n {
					want++
				}
			}
			if many, e := order.Count(o, n); many != want || e != api.OK {
				t.Error("Count", textOf(o), n, many, e)
			}
		}
	})
}

func TestP4_7Cases(t *testing.T) {
	o := parsed(t, "a or a then b or times 2 to 3 after 5 to 6 each(c, b) within 0")
	for _, x := range []struct {
		names, next string
		accepted    bool
	}{{"", "a b c", false}, {"a", "b", true}, {"a b", "", true}, {"b", "c", false}, {"b c", "b c", false}, {"b c c", "b", false}, {"b c c b", "b c", true}, {"b c c b b c", "", true}, {"a a", "", false}, {"d", "", false}, {"a b c", "", false}, {"b b", "", false}} {
		is, e := order.Accepts(o, words(x.names))
		if is != x.accepted || e != api.OK {
			t.Error("Accepts", x.names, is, e)
		}
		next, e := order.Next(o, words(x.names))
		same(t, "Next: "+x.names, next, words(x.next), e)
	}
	for _, name := range []string{"", "A", "aa", " ", "\xff", strings.Repeat("a", 1000)} {
		is, e := order.Accepts(o, []string{name})
		next, f := order.Next(o, []string{"a", name})
		if is || e != api.OK || f != api.OK || len(next) > 0 {
			t.Errorf("Accepts, Next: %q: %v %d %v %d", name, is, e, next, f)
		}
	}
	thirty := strings.Split(strings.Repeat("a", 30), "")
	longest := parsed(t, "times 5 to 5 times 6 to 6 a")
	if is, e := order.Accepts(longest, thirty); !is || e != api.OK {
		t.Error("Accepts", is, e)
	}
	next, e := order.Next(longest, thirty)
	same(t, "Next of the longest list", next, nil, e)
	next, e = order.Next(longest, thirty[1:])
	same(t, "Next of a long list", next, words("a"), e)
	wide, l := parsed(t, mostPositions), words(strings.Repeat("a b c d d a c b c a d b ", 2)+"h e g f a b")
	for n := range len(l) {
		next, e := order.Next(wide, l[:n])
		if is, f := order.Accepts(wide, l[:n]); is || e != api.OK || f != api.OK || !slices.Contains(next, l[n]) {
			t.Error("Next", l[:n], next, e, is, f)
		}
	}
	if is, e := order.Accepts(wide, l); !is || e != api.OK {
		t.Error("Accepts", l, is, e)
	}
	for _, n := range []int{31, 100000} {
		is, e := order.Accepts(longest, make([]string, n))
		next, f := order.Next(longest, make([]string, n))
		if is || e != api.ErrLimit || f != api.ErrLimit || len(next) > 0 {
			t.Error("too many names:", n, is, e, next, f)
		}
	}
}

func TestP4_7Count(t *testing.T) {
	for _, n := range []int{-1, 21, minInt, maxInt} {
		if many, e := order.Count(visit("a"), n); many != 0 || e != api.ErrArg {
			t.Error("Count", n, many, e)
		}
	}
	six := "(a or b or c or d or e or f)"
	for _, x := range []struct {
		source  string
		n, want int
	}{
		{"a", 0, 0}, {"a", 1, 1}, {"a", 2, 0}, {"a", 20, 0}, {"a or a", 1, 1}, {"each(a, b, c, d)", 4, 24}, {"each(a, b) or a then b or b then a", 2, 2}, {"times 1 to 6 a then times 1 to 6 a", 7, 1}, {"times 1 to 6 a then times 1 to 6 a", 12, 1}, {"times 1 to 6 a then times 1 to 6 a", 13, 0}, {"times 5 to 5 times 6 to 6 a", 20, 0}, {"times 4 to 4 times 5 to 5 a", 20, 1},
		{"times 5 to 5 " + six, 5, 7776}, {"times 3 to 3 times 5 to 5 (a or b)", 15, 32768}, {"times 1 to 3 times 1 to 5 (a or b)", 15, 32768}, {"times 1 to 3 times 1 to 5 (a or b)", 14, 16384},
		{"times 5 to 5 each(a, b, c, d) then each(a, b, c, d)", 20, 0}, {"times 5 to 5 each(a, b, c, d)", 20, 24 * 24 * 24 * 24 * 24}, {"times 5 to 6 each(a, b, c, d)", 20, 24 * 24 * 24 * 24 * 24},
	} {
		if many, e := order.Count(parsed(t, x.source), x.n); many != x.want || e != api.OK {
			t.Error("Count", x.source, x.n, many, e)
		}
	}
}

// mostPositions is an order that has, for each of its visits, as many sets of visits that were made as there can be.
const mostPositions = "times 1 to 6 each(a, b, c, d) then each(e, f, g, h) then each(b, a)"

// Orders whose automata have as many states as there may be, and one more.
const (
	threeHundred       = "(b or each(b, c)) then (c or e or e then d) then (b then d or times 2 to 4 (e or each(d, b, c, e))) or c"
	threeHundredAndOne = "(each(c, a, b) or a or each(c, a)) then times 1 to 3 (each(b, c) or a) then times 3 to 3 (each(b, a, c) then (b or c))"
)

// rests returns, for each list with which one of a language begins, what can follow it, as a text.
func rests(all [][]string) map[string]string {
	l := map[string]string{}
	for _, x := range all {
		for k := range len(x) + 1 {
			begin := strings.Join(x[:k], " ")
			l[begin] += strings.Join(x[k:], " ") + ";"
		}
	}
	return l
}

// TestP4_8 checks that the automaton of an order is the one that the chapter describes: its states are the different rests of the language, in the order in which they are reached.
func TestP4_8(t *testing.T) {
	ordersWithLists(t, 48, 300, func(o api.Order, all [][]string) {
		got, e := order.Automaton(o)
		if f := order.CheckAutomaton(got); e != api.OK || f != api.OK {
			t.Error("Automaton", textOf(o), e, f)
		}
		rest := rests(slices.SortedFunc(slices.Values(all), slices.Compare))
		names, _ := order.Names(o)
		want := api.Automaton{Names: names}
		number, begins := map[string]int{rest[""]: 0}, []string{""}
		for k := 0; k < len(begins); k++ {
			want.Final = append(want.Final, strings.HasPrefix(rest[begins[k]], ";"))
			var row []int
			for _, name := range names {
				begin := strings.TrimPrefix(begins[k]+" "+name, " ")
				if rest[begin] == "" {
					row = append(row, -1)
					continue
				}
				if _, is := number[rest[begin]]; !is {
					number[rest[begin]] = len(begins)
					begins = append(begins, begin)
				}
				row = append(row, number[rest[begin]])
			}
			want.Next = append(want.Next, row)
		}
		if !isSameAutomaton(got, want) {
			t.Errorf("Automaton: %s: %v, not %v", textOf(o), got, want)
		}
	})
}

func TestP4_8Limit(t *testing.T) {
	a, e := order.Automaton(parsed(t, threeHundred))
	if len(a.Final) != 300 || e != api.OK || order.CheckAutomaton(a) != api.OK {
		t.Error("Automaton", len(a.Final), e)
	}
	for _, source := range []string{threeHundredAndOne, "b then (times 1 to 3 c then ((a or each(c, d, a) or (d or c)) then times 1 to 2 each(b, a, d, c) then (each(c, a, d) then each(a, d, b, c) then each(a, b, c, d)))) then c"} {
		if a, e := order.Automaton(parsed(t, source)); e != api.ErrLimit || !isSameAutomaton(a, api.Automaton{}) {
			t.Error("Automaton", source, a, e)
		}
	}
}

// derived returns what can be left of a list of orders, which are to be accepted one after the other, behind a name.
func derived(l []api.Order, name string) [][]api.Order {
	if len(l) == 0 {
		return nil
	}
	o, rest := l[0], l[1:]
	with := func(l ...api.Order) [][]api.Order { return derived(slices.Concat(l, rest), name) }
	switch o.Kind {
	case api.OrVisit, api.OrEach:
		left := slices.DeleteFunc(slices.Clone(o.Names), func(x string) bool { return x == name })
		switch len(o.Names) - len(left) {
		case 0:
			return nil
		case 1:
			if len(left) == 0 {
				return [][]api.Order{rest}
			}
		}
		first := each(left...)
		if len(left) == 1 {
			first = visit(left[0])
		}
		return [][]api.Order{slices.Concat([]api.Order{first}, rest)}
	case api.OrEither:
		return append(with(o.Kids[0]), with(o.Kids[1])...)
	case api.OrTimes:
		var all [][]api.Order
		for c := o.Lo; c <= o.Hi; c++ {
			all = append(all, with(slices.Repeat(o.Kids, c)...)...)
		}
		return all
	}
	return with(o.Kids...)
}

// keyOf returns a text that tells lists of orders, each once and in some order.
func keyOf(l [][]api.Order) string {
	texts := map[string]bool{}
	for _, x := range l {
		text := ""
		for _, o := range x {
			text += textOf(o) + " . "
		}
		texts[text] = true
	}
	var all []string
	for x := range texts {
		all = append(all, x)
	}
	slices.Sort(all)
	return strings.Join(all, "|")
}

// fold returns the number of what can be left of an order; known has the numbers of lists of orders, and states that of what is behind each name.
func fold(l [][]api.Order, names []string, known, states map[string]int) int {
	key := keyOf(l)
	if k, is := known[key]; is {
		return k
	}
	final := slices.ContainsFunc(l, func(x []api.Order) bool { return len(x) == 0 })
	state := strconv.FormatBool(final)
	for _, name := range names {
		var next [][]api.Order
		for _, x := range l {
			next = append(next, derived(x, name)...)
		}
		if len(next) == 0 {
			state += " -"
			continue
		}
		state += " " + strconv.Itoa(fold(next, names, known, states))
	}
	if _, is := states[state]; !is {
		states[state] = len(states)
	}
	known[key] = states[state]
	return states[state]
}

// counted returns how many lists of n names some lists of orders accept, one after the other.
func counted(l [][]api.Order, names []string, n int, known map[string]int) int {
	if n == 0 {
		if slices.ContainsFunc(l, func(x []api.Order) bool { return len(x) == 0 }) {
			return 1
		}
		return 0
	}
	key := strconv.Itoa(n) + keyOf(l)
	if many, is := known[key]; is {
		return many
	}
	for _, name := range names {
		var next [][]api.Order
		for _, x := range l {
			next = append(next, derived(x, name)...)
		}
		known[key] += counted(next, names, n-1, known)
	}
	return known[key]
}

// TestP4_8Large compares the numbers of states, and the counts, with those of an automaton that is made of the orders that are left behind each name.
func TestP4_8Large(t *testing.T) {
	sources := map[string]bool{threeHundred: true, threeHundredAndOne: true, mostPositions: true}
	for c := chance(480); len(sources) < 300; {
		o := c.order(c.from(4, 7), c.from(2, 4))
		if _, hi, _ := order.Lengths(o); hi > 5 {
			sources[textOf(o)] = true
		}
	}
	most := 0
	for source := range sources {
		o := parsed(t, source)
		names, _ := order.Names(o)
		states := map[string]int{}
		fold([][]api.Order{{o}}, names, map[string]int{}, states)
		known := map[string]int{}
		for n := range api.MaxCount + 1 {
			if many, e := order.Count(o, n); many != counted([][]api.Order{{o}}, names, n, known) || e != api.OK {
				t.Error("Count", source, n, many, e)
			}
		}
		a, e := order.Automaton(o)
		if e == api.OK && len(a.Final) != len(states) || e != api.OK && (e != api.ErrLimit || len(states) <= api.MaxStates) {
			t.Error("Automaton", source, len(a.Final), e, len(states))
		}
		if e == api.OK {
			most = max(most, len(states))
		}
		switch n := len(states); {
		case source == threeHundred && n != 300, source == threeHundredAndOne && n != 301:
			t.Error("not the right test:", source, n)
		}
	}
	if most < 200 {
		t.Error("not an even test:", most)
	}
}

// machine is an automaton for tests; it accepts the lists of an even number of a, and then any number of b.
func machine() api.Automaton {
	return api.Automaton{Names: words("a b"), Next: [][]int{{1, 2}, {0, -1}, {-1, 2}}, Final: []bool{true, false, true}}
}

func TestP4_8Check(t *testing.T) {
	row := func(n, x int) []int { return slices.Repeat([]int{x}, n) }
	rows := func(n, names int) [][]int {
		var l [][]int
		for range n {
			l = append(l, row(names, n-1))
		}
		return l
	}
	for what, x := range map[string]struct {
		change func(a *api.Automaton)
		want   api.Errno
	}{
		"right": {func(a *api.Automaton) {}, api.OK}, "one state": {func(a *api.Automaton) { a.Next, a.Final = [][]int{{0, -1}}, []bool{false} }, api.OK}, "no names": {func(a *api.Automaton) { a.Names, a.Next = nil, make([][]int, 3) }, api.OK},
		"8 names, 300 states": {func(a *api.Automaton) { a.Names, a.Next, a.Final = letters(8), rows(300, 8), make([]bool, 300) }, api.OK}, "names": {func(a *api.Automaton) { a.Names = []string{"0", "abcdefghijklmnop"} }, api.OK}, "reserved names": {func(a *api.Automaton) { a.Names = []string{"5", "then"} }, api.OK},
		"9 names": {func(a *api.Automaton) { a.Names, a.Next = letters(9), rows(3, 9) }, api.ErrLimit}, "301 states": {func(a *api.Automaton) { a.Next, a.Final = rows(301, 2), make([]bool, 301) }, api.ErrLimit}, "9 bad names": {func(a *api.Automaton) { a.Names, a.Final = make([]string, 9), nil }, api.ErrLimit}, "301 states and bad names": {func(a *api.Automaton) { a.Names, a.Final = []string{"?"}, make([]bool, 301) }, api.ErrLimit},
		"nothing": {func(a *api.Automaton) { *a = api.Automaton{} }, api.ErrArg}, "no states": {func(a *api.Automaton) { a.Next, a.Final = nil, nil }, api.ErrArg}, "a row too few": {func(a *api.Automaton) { a.Next = a.Next[:2] }, api.ErrArg}, "a row too many": {func(a *api.Automaton) { a.Next = append(a.Next, row(2, -1)) }, api.ErrArg}, "301 rows for 3 states": {func(a *api.Automaton) { a.Next = rows(301, 2) }, api.ErrArg},
		"a short row": {func(a *api.Automaton) { a.Next[2] = row(1, 0) }, api.ErrArg}, "a long row": {func(a *api.Automaton) { a.Next[0] = row(3, 0) }, api.ErrArg}, "no row": {func(a *api.Automaton) { a.Next[1] = nil }, api.ErrArg}, "the state -2": {func(a *api.Automaton) { a.Next[1][1] = -2 }, api.ErrArg}, "the state 3": {func(a *api.Automaton) { a.Next[1][1] = 3 }, api.ErrArg}, "a huge state": {func(a *api.Automaton) { a.Next[2][0] = maxInt }, api.ErrArg}, "a state far below": {func(a *api.Automaton) { a.Next[2][0] = minInt }, api.ErrArg},
		"equal names": {func(a *api.Automaton) { a.Names[1] = "a" }, api.ErrArg}, "decreasing names": {func(a *api.Automaton) { a.Names = words("b a") }, api.ErrArg}, "an empty name": {func(a *api.Automaton) { a.Names[0] = "" }, api.ErrArg}, "a bad name": {func(a *api.Automaton) { a.Names[0] = "A" }, api.ErrArg}, "a long name": {func(a *api.Automaton) { a.Names[1] = "bbbbbbbbbbbbbbbbb" }, api.ErrArg},
	} {
		a := machine()
		x.change(&a)
		if e := order.CheckAutomaton(a); e != x.want {
			t.Error("CheckAutomaton", what, e)
		}
		for _, names := range [][]string{nil, make([]string, 31)} {
			s, e := order.Follow(a, names)
			want := x.want
			if want == api.OK && len(names) > 30 {
				want = api.ErrLimit
			}
			if e != want || s != 0 {
				t.Error("Follow", what, s, e)
			}
		}
	}
}

func TestP4_8Follow(t *testing.T) {
	for _, x := range []struct {
		names string
		want  int
	}{{"", 0}, {"a", 1}, {"a a", 0}, {"a b", -1}, {"a b a", -1}, {"b", 2}, {"b b b", 2}, {"a a b", 2}, {"b a", -1}, {"c", -1}, {"a c", -1}, {"aa", -1}, {strings.Repeat("a ", 29), 1}, {strings.Repeat("b ", 30), 2}} {
		if s, e := order.Follow(machine(), words(x.names)); s != x.want || e != api.OK {
			t.Error("Follow", x.names, s, e)
		}
	}
	if s, e := order.Follow(api.Automaton{Next: [][]int{{}}, Final: []bool{true}}, words("a")); s != -1 || e != api.OK {
		t.Error("Follow", s, e)
	}
	if s, e := order.Follow(machine(), []string{""}); s != -1 || e != api.OK {
		t.Error("Follow", s, e)
	}
}

// leastBut returns the least list of some lists that is not among others; true if there is none.
func leastBut(l, others [][]string) ([]string, bool) {
	for _, x := range l {
		if !contains(others, x) {
			return x, false
		}
	}
	return nil, true
}

// TestP4_10 compares Same and Implies with the lists of languages.
func TestP4_10(t *testing.T) {
	var orders []api.Order
	var languages [][][]string
	ordersWithLists(t, 410, 60, func(o api.Order, all [][]string) {
		if len(all) <= 60 {
			orders, languages = append(orders, o), append(languages, all)
		}
	})
	for _, source := range []string{"a", "a or b", "b or a", "a then b or b then a", "each(a, b)", "each(b, a) within 5", "times 2 to 2 after 3 to 4 a", "a then after 1 to 2 a", "times 1 to 2 a", "z"} {
		o := parsed(t, source)
		orders, languages = append(orders, o), append(languages, lists(language(o, 60)))
	}
	yes := 0
	for k, a := range orders {
		for n, b := range orders {
			want, all := leastBut(languages[k], languages[n])
			l, is, e := order.Implies(a, b)
			same(t, "Implies: "+textOf(a)+": "+textOf(b), l, want, e)
			if is != all {
				t.Error("Implies", textOf(a), textOf(b), is)
			}
			back, allBack := leastBut(languages[n], languages[k])
			if all || !allBack && cmp.Or(cmp.Compare(len(back), len(want)), slices.Compare(back, want)) < 0 {
				want = back
			}
			l, is, e = order.Same(a, b)
			same(t, "Same: "+textOf(a)+": "+textOf(b), l, want, e)
			if is != (all && allBack) {
				t.Error("Same", textOf(a), textOf(b), is)
			}
			if is && k != n {
				yes++
			}
		}
	}
	if yes < 10 {
		t.Error("not an even test:", yes)
	}
}

func TestP4_10Limit(t *testing.T) {
	most, tooMany, a := parsed(t, threeHundred), parsed(t, threeHundredAndOne), visit("a")
	expect(t, "the first one", comparisons(tooMany, a), api.ErrLimit)
	expect(t, "the second one", comparisons(a, tooMany), api.ErrLimit)
	expect(t, "both", comparisons(tooMany, tooMany), api.ErrLimit)
	expect(t, "not too many", comparisons(a, most), api.OK)
	if l, is, e := order.Same(most, most); !is || e != api.OK || len(l) > 0 {
		t.Error("Same", l, is, e)
	}
	expect(t, "the error of Check comes first", comparisons(tooMany, visit("")), api.ErrForm)
}
