package tribunal

import (
	"cmp"
	"iter"
	"slices"

	"patrol/api"
	"patrol/office"
)

// until yields the facts of a list that are known at a time.
func until(l []api.Fact, known int) iter.Seq[api.Fact] {
	return func(yield func(api.Fact) bool) {
		for _, f := range l {
			if f.Known <= known && !yield(f) {
				return
			}
		}
	}
}

// copyOf returns a valid fact with memory of its own: the one that its text tells.
func copyOf(f api.Fact) api.Fact {
	text, _ := office.Encode(f)
	f, _ = office.Decode(text)
	return f
}

// Until returns the facts that are known at a time.
func Until(l []api.Fact, known int) ([]api.Fact, api.Errno) {
	if e, _ := office.CheckFacts(l); e != api.OK {
		return nil, e
	}
	if !isTime(known) {
		return nil, api.ErrArg
	}
	var early []api.Fact
	for f := range until(l, known) {
		early = append(early, copyOf(f))
	}
	return early, api.OK
}

// compareNames compares the names of two facts.
func compareNames(f, g api.Fact) int {
	return cmp.Or(cmp.Compare(f.Office, g.Office), cmp.Compare(f.No, g.No))
}

// Merge returns the facts of two lists.
func Merge(a, b []api.Fact) ([]api.Fact, api.Errno) {
	both := slices.Concat(a, b)
	for _, l := range [][]api.Fact{a, b, both} {
		if e, _ := office.CheckFacts(l); e != api.OK {
			return nil, e
		}
	}
	slices.SortFunc(both, compareNames)
	both = slices.CompactFunc(both, func(f, g api.Fact) bool { return compareNames(f, g) == 0 })
	for k, f := range both {
		both[k] = copyOf(f)
	}
	return both, api.OK
}
