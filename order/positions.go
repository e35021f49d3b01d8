package order

import (
	"iter"
	"math/bits"
	"slices"

	"patrol/api"
)

// set is a set of positions, as bits. There is room for 128 of them, and no order has more than 109: the start, 15 for each of seven OrEach of four names, and 3 for one of two names make up the greatest spread.
type set [2]uint64

// setOf returns the set of one position.
func setOf(p int) set {
	var s set
	s[p/64] = 1 << (p % 64)
	return s
}

func (s set) union(x set) set { return set{s[0] | x[0], s[1] | x[1]} }

func (s set) meets(x set) bool { return s[0]&x[0] != 0 || s[1]&x[1] != 0 }

// positions yields the positions of a set.
func (s set) positions() iter.Seq[int] {
	return func(yield func(int) bool) {
		for k, word := range s {
			for ; word != 0; word &= word - 1 {
				if !yield(64*k + bits.TrailingZeros64(word)) {
					return
				}
			}
		}
	}
}

// fan has for each name the positions behind it.
type fan [api.MaxAlpha]set

func (f fan) union(x fan) fan {
	for k := range f {
		f[k] = f[k].union(x[k])
	}
	return f
}

// net tells at which positions in an order one can be behind a list of names, all nodes of the kind OrTimes being written out. Each position leads on to an end.
type net struct {
	names []string
	fans  []fan // for each position
	ends  set
}

// newNet returns the net of an order. Its first position is ahead of all names.
func newNet(o api.Order) *net {
	n := &net{names: namesOf(o), fans: []fan{{}}}
	first, last := n.add(o)
	n.fans[0], n.ends = first, last
	return n
}

// start returns where one is behind no name.
func (n *net) start() set { return setOf(0) }

// index returns the index of a name; false if the order does not have it.
func (n *net) index(name string) (int, bool) { return slices.BinarySearch(n.names, name) }

// more adds some positions, from which nothing leads on as yet, and returns the first one of them.
func (n *net) more(many int) int {
	first := len(n.fans)
	n.fans = append(n.fans, make([]fan, many)...)
	return first
}

// add adds the positions of a node; it returns where one gets from ahead of it, and where one is behind it.
func (n *net) add(o api.Order) (first fan, last set) {
	switch o.Kind {
	case api.OrThen:
		first, last = n.add(o.Kids[0])
		return first, n.behind(last, o.Kids[1])
	case api.OrEither:
		first0, last0 := n.add(o.Kids[0])
		first1, last1 := n.add(o.Kids[1])
		return first0.union(first1), last0.union(last1)
	case api.OrWithin:
		return n.add(o.Kids[0])
	case api.OrTimes:
		return n.addTimes(o)
	}
	return n.addNames(o.Names)
}

// behind adds the positions of a node behind those where something else ends; it returns where one is behind both.
func (n *net) behind(ends set, o api.Order) set {
	first, last := n.add(o)
	for p := range ends.positions() {
		n.fans[p] = n.fans[p].union(first)
	}
	return last
}

// addTimes adds the positions of all repetitions of OrTimes.
func (n *net) addTimes(o api.Order) (first fan, last set) {
	first, ends := n.add(o.Kids[0])
	for times := 1; ; times++ {
		if times >= o.Lo {
			last = last.union(ends)
		}
		if times == o.Hi {
			return first, last
		}
		ends = n.behind(ends, o.Kids[0])
	}
}

// addNames adds the positions of OrVisit or OrEach: one for each set of some of its names, behind these.
func (n *net) addNames(names []string) (first fan, last set) {
	all := 1<<len(names) - 1
	base := n.more(all) - 1 // the sets begin at 1, for the empty one is ahead of the node
	for k, name := range names {
		x, _ := n.index(name)
		first[x] = setOf(base + 1<<k)
		for had := 1; had < all; had++ {
			if had>>k&1 == 0 {
				n.fans[base+had][x] = setOf(base + had + 1<<k)
			}
		}
	}
	return first, setOf(base + all)
}

// next returns where one is behind some positions and a name.
func (n *net) next(s set, name int) set {
	var to set
	for p := range s.positions() {
		to = to.union(n.fans[p][name])
	}
	return to
}

// follow returns where one is behind a list of names.
func (n *net) follow(names []string) set {
	s := n.start()
	for _, name := range names {
		k, is := n.index(name)
		if !is {
			return set{}
		}
		s = n.next(s, k)
	}
	return s
}

// count returns how many lists of some names there are.
func (n *net) count(names int) int {
	many := map[set]int{n.start(): 1} // how many lists lead there
	for range names {
		longer := map[set]int{}
		for s, lists := range many {
			for k := range n.names {
				if to := n.next(s, k); to != (set{}) {
					longer[to] += lists
				}
			}
		}
		many = longer
	}
	sum := 0
	for s, lists := range many {
		if s.meets(n.ends) {
			sum += lists
		}
	}
	return sum
}

// Accepts reports whether an order accepts a list of names.
func Accepts(o api.Order, names []string) (bool, api.Errno) {
	if e := checkNames(o, names); e != api.OK {
		return false, e
	}
	n := newNet(o)
	return n.follow(names).meets(n.ends), api.OK
}

// Next returns the names that can follow a list.
func Next(o api.Order, names []string) ([]string, api.Errno) {
	if e := checkNames(o, names); e != api.OK {
		return nil, e
	}
	n := newNet(o)
	s := n.follow(names)
	var l []string
	for k, name := range n.names {
		if n.next(s, k) != (set{}) {
			l = append(l, name)
		}
	}
	return l, api.OK
}

// Count returns how many lists of some names the language has.
func Count(o api.Order, n int) (int, api.Errno) {
	if e := Check(o); e != api.OK {
		return 0, e
	}
	if !has(api.Span{Hi: api.MaxCount}, n) {
		return 0, api.ErrArg
	}
	return newNet(o).count(n), api.OK
}
