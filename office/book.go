package office

import "patrol/api"

// book is the facts that an office holds: of each office the first ones, by their No without a gap; and the names of all of them, in the order in which they came.
type book struct {
	held [api.MaxOffices][]api.Fact
	came []api.Name
}

// count returns how many facts of an office are held.
func (b *book) count(office int) int { return len(b.held[office-1]) }

// isFull reports whether no fact more can be held.
func (b *book) isFull() bool { return len(b.came) >= api.MaxFacts }

// find returns the fact with a name that a valid fact can have; false if it is not held.
func (b *book) find(n api.Name) (api.Fact, bool) {
	if n.No > b.count(n.Office) {
		return api.Fact{}, false
	}
	return b.held[n.Office-1][n.No-1], true
}

// isFollowedBy reports whether a valid fact follows the facts that are held.
func (b *book) isFollowedBy(f api.Fact) bool {
	n := b.count(f.Office)
	// Each fact followed those before it, so that the last one has the greatest Known.
	return f.No == n+1 && (n == 0 || f.Known >= b.held[f.Office-1][n-1].Known)
}

// add adds a fact that follows the facts that are held.
func (b *book) add(f api.Fact) {
	b.held[f.Office-1] = append(b.held[f.Office-1], copyOf(f))
	b.came = append(b.came, nameOf(f))
}

// behind returns the facts of all offices without the first ones, of which a number is given for each office.
func (b *book) behind(have []int) []api.Fact {
	var l []api.Fact
	for k, facts := range b.held {
		for _, f := range facts[min(have[k], len(facts)):] {
			l = append(l, copyOf(f))
		}
	}
	return l
}
