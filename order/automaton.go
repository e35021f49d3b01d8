package order

import (
	"slices"

	"patrol/api"
)

// none is the number of the state from which no list leads to an end.
const none = -1

// state is what makes a state of a minimal automaton: whether it is final, and the states behind it.
type state struct {
	final bool
	next  [api.MaxAlpha]int
}

// folder makes the states of the minimal automaton of a net: each of them stands for all sets of positions from which the same lists lead to an end.
type folder struct {
	*net
	folded map[set]int
	number map[state]int
	states []state
}

// fold returns the state for a set of positions; it panics if there are too many states.
func (f *folder) fold(s set) int {
	if s == (set{}) {
		return none
	}
	if k, is := f.folded[s]; is {
		return k
	}
	x := state{final: s.meets(f.ends)}
	for name := range f.names {
		x.next[name] = f.fold(f.next(s, name))
	}
	k, is := f.number[x]
	if !is {
		if len(f.states) == api.MaxStates {
			panic(halt{e: api.ErrLimit})
		}
		k = len(f.states)
		f.states, f.number[x] = append(f.states, x), k
	}
	f.folded[s] = k
	return k
}

// numbered returns the automaton of the states, numbered as they are reached from the first one.
func (f *folder) numbered(first int) api.Automaton {
	a := api.Automaton{Names: f.names}
	number, reached := map[int]int{none: none, first: 0}, []int{first}
	for k := 0; k < len(reached); k++ {
		x, row := f.states[reached[k]], make([]int, len(f.names))
		for name := range row {
			to := x.next[name]
			if _, is := number[to]; !is {
				number[to] = len(reached)
				reached = append(reached, to)
			}
			row[name] = number[to]
		}
		a.Next, a.Final = append(a.Next, row), append(a.Final, x.final)
	}
	return a
}

// Automaton returns the minimal automaton of an order; ErrLimit if it has too many states.
func Automaton(o api.Order) (a api.Automaton, e api.Errno) {
	if e := Check(o); e != api.OK {
		return api.Automaton{}, e
	}
	defer func() {
		if x, is := recover().(halt); is {
			a, e = api.Automaton{}, x.e
		}
	}()
	f := folder{net: newNet(o), folded: map[set]int{}, number: map[state]int{}}
	first := f.fold(f.start())
	return f.numbered(first), api.OK
}

// isRow reports whether a row of an automaton has a state, or none, for each of some names.
func isRow(row []int, names, states int) bool {
	if len(row) != names {
		return false
	}
	for _, k := range row {
		if !has(api.Span{Lo: none, Hi: states - 1}, k) {
			return false
		}
	}
	return true
}

// CheckAutomaton returns the error of an automaton.
func CheckAutomaton(a api.Automaton) api.Errno {
	if len(a.Final) > api.MaxStates || len(a.Names) > api.MaxAlpha {
		return api.ErrLimit
	}
	if len(a.Final) == 0 || len(a.Next) != len(a.Final) || !areNames(a.Names) || !slices.IsSorted(a.Names) {
		return api.ErrArg
	}
	for _, row := range a.Next {
		if !isRow(row, len(a.Names), len(a.Final)) {
			return api.ErrArg
		}
	}
	return api.OK
}

// follow returns the state of an automaton behind another one, or none, and a name.
func follow(a api.Automaton, s int, name string) int {
	k, is := slices.BinarySearch(a.Names, name)
	if s == none || !is {
		return none
	}
	return a.Next[s][k]
}

// Follow returns the state of an automaton behind a list of names, or -1 if there is none.
func Follow(a api.Automaton, names []string) (int, api.Errno) {
	if e := CheckAutomaton(a); e != api.OK {
		return 0, e
	}
	if len(names) > api.MaxVisits {
		return 0, api.ErrLimit
	}
	s := 0
	for _, name := range names {
		s = follow(a, s, name)
	}
	return s, api.OK
}
