package custody

import (
	"slices"
	"sort"

	"patrol/api"
)

// openAt returns the story of a key that is consistent, for a time or a span that is right or not.
func openAt(c api.Custody, key int, right bool) (story, api.Errno) {
	y, e := open(c, key)
	switch {
	case e != api.OK:
		return story{}, e
	case !right:
		return story{}, api.ErrArg
	case !y.can():
		return story{}, api.ErrClash
	}
	return y, api.OK
}

// History returns a history of a key.
func History(c api.Custody, key int) ([]api.Move, api.Errno) {
	y, e := open(c, key)
	if e != api.OK {
		return nil, e
	}
	l, is := y.find()
	if !is {
		return nil, api.ErrClash
	}
	return l, api.OK
}

// Holders returns the places that a key can have behind a time.
func Holders(c api.Custody, key, t int) ([]int, api.Errno) {
	y, e := openAt(c, key, isTime(t))
	if e != api.OK {
		return nil, e
	}
	var places []int
	for _, place := range []int{api.Nobody, api.Board} {
		if y.can(placed{moment(t), place}) {
			places = append(places, place)
		}
	}
	return append(places, y.idsOf(func(p api.Person) bool { return y.can(placed{moment(t), p.ID}) })...), api.OK
}

// Copiers returns who can have a copy of a key behind a time.
func Copiers(c api.Custody, key, t int) ([]int, api.Errno) {
	y, e := openAt(c, key, isTime(t))
	if e != api.OK {
		return nil, e
	}
	return y.idsOf(func(p api.Person) bool { return y.can(copied{moment(t), p.ID}) }), api.OK
}

// Hands returns who can have used a key in a span.
func Hands(c api.Custody, key int, s api.Span) ([]int, api.Errno) {
	y, e := openAt(c, key, areTimes(s))
	if e != api.OK {
		return nil, e
	}
	return y.idsOf(func(p api.Person) bool { return y.can(handled{duty(p, s), p.ID}) }), api.OK
}

// among returns the ends of the spans of all entries that lie in a span, in increasing order; a function tells which ends.
func (y story) among(s api.Span, end func(x api.Span) int) []int {
	var l []int
	for _, x := range y.entries {
		if n := end(x.At); has(s, n) {
			l = append(l, n)
		}
	}
	slices.Sort(l)
	return slices.Compact(l)
}

// ends returns the least and the greatest time of the entry with an index.
func (y story) ends(k int) api.Span {
	// If all moves are as early as they can be, each one is at the first time of an entry, or at 0; if they are as late, at the last time of one, or at the end.
	at := y.entries[k].At
	first := y.among(at, func(x api.Span) int { return x.Lo })
	last := y.among(at, func(x api.Span) int { return x.Hi })
	// What can be done by a time can be done by each later one, and what need not be done before one need not be before an earlier one.
	lo := sort.Search(len(first)-1, func(n int) bool { return y.can(done{moment(first[n]), k}) })
	hi := sort.Search(len(last)-1, func(n int) bool { return !y.can(pending{moment(last[n+1] - 1), k}) })
	return api.Span{Lo: first[lo], Hi: last[hi]}
}

// When returns the least and the greatest time of an entry.
func When(c api.Custody, id int) (api.Span, api.Errno) {
	if e := Check(c); e != api.OK {
		return api.Span{}, e
	}
	is := func(x api.Entry) bool { return x.ID == id }
	k := slices.IndexFunc(c.Entries, is)
	if k < 0 {
		return api.Span{}, api.ErrNone
	}
	y := storyOf(c, c.Entries[k].Key)
	if !y.can() {
		return api.Span{}, api.ErrClash
	}
	return y.ends(slices.IndexFunc(y.entries, is)), api.OK
}

// Needed returns how many passes of a key at least were not recorded.
func Needed(c api.Custody, key int) (int, api.Errno) {
	y, e := open(c, key)
	if e != api.OK {
		return 0, e
	}
	y.gaps = api.MaxGaps
	l, is := y.find()
	if !is {
		return 0, api.ErrNone
	}
	return len(l) - len(y.entries), api.OK
}

// Suspects returns the entries without each of which alone a key has a history.
func Suspects(c api.Custody, key int) ([]int, api.Errno) {
	y, e := open(c, key)
	if e != api.OK {
		return nil, e
	}
	if y.can() {
		return nil, api.OK
	}
	var ids []int
	for k, x := range y.entries {
		if y.without(k).can() {
			ids = append(ids, x.ID)
		}
	}
	slices.Sort(ids)
	return ids, api.OK
}
