package custody_test

import (
	"testing"

	"patrol/api"
	"patrol/custody"
)

func TestP6_2With(t *testing.T) {
	got, e := custody.With(exampleBook(), pass(5, 7, 1, 0, 800, 850))
	sameBook(t, "With", got, brokenBook(), e)
	// An entry with a lesser ID and an earlier time stands behind the others, too.
	want := brokenBook()
	want.Entries[4] = find(6, 7, 0, 0, 0)
	got, e = custody.With(exampleBook(), find(6, 7, 0, 0, 0))
	sameBook(t, "With", got, want, e)
	got, e = custody.With(api.Custody{Keys: []int{1}}, lose(1, 1, 0, 0, 0))
	sameBook(t, "With", got, api.Custody{Keys: []int{1}, Entries: []api.Entry{lose(1, 1, 0, 0, 0)}}, e)
	seven := with(func(c *api.Custody) { c.Entries = append(c.Entries, brokenBook().Entries[4:]...) })
	for id := 6; id <= api.MaxOfKey; id++ {
		seven, _ = custody.With(seven, pass(id, 7, 0, 1, 0, 0))
	}
	for _, x := range []struct {
		c     api.Custody
		entry api.Entry
		e     api.Errno
	}{
		{exampleBook(), api.Entry{}, api.ErrArg}, {exampleBook(), pass(5, 8, 0, 1, 0, 0), api.ErrArg}, {exampleBook(), pass(5, 7, 1, 1, 0, 0), api.ErrArg}, {exampleBook(), pass(4, 7, 0, 3, 0, 0), api.ErrArg},
		{exampleBook(), pass(4, 7, 0, 1, 0, 0), api.ErrTwice}, {seven, pass(8, 7, 0, 1, 0, 0), api.ErrLimit}, {seven, pass(7, 7, 0, 1, 0, 0), api.ErrTwice}, {fullBook(), pass(1, api.MaxID, 0, api.MaxID, 0, 0), api.ErrLimit}, {fullBook(), api.Entry{}, api.ErrLimit},
		{api.Custody{}, pass(1, 1, 0, 1, 0, 0), api.ErrArg},
	} {
		if got, e := custody.With(x.c, x.entry); e != x.e || !isSame(got, api.Custody{}) {
			t.Error("With", x, got, e)
		}
	}
}

func TestP6_2Without(t *testing.T) {
	for _, x := range []struct {
		ids, left []int
	}{
		{nil, []int{1, 2, 3, 4, 5}}, {[]int{5}, []int{1, 2, 3, 4}}, {[]int{1}, []int{2, 3, 4, 5}}, {[]int{4, 2}, []int{1, 3, 5}}, {[]int{5, 4, 3, 2, 1}, nil},
		{[]int{2, 2, 2}, []int{1, 3, 4, 5}}, {[]int{0, 6, -1, minInt, maxInt, 7}, []int{1, 2, 3, 4, 5}}, {[]int{9, 3, 0}, []int{1, 2, 4, 5}},
	} {
		want := brokenBook()
		want.Entries = nil
		for _, id := range x.left {
			want.Entries = append(want.Entries, brokenBook().Entries[id-1])
		}
		got, e := custody.Without(brokenBook(), x.ids)
		sameBook(t, "Without", got, want, e)
	}
	got, e := custody.Without(api.Custody{}, []int{1})
	sameBook(t, "Without", got, api.Custody{}, e)
	// Entries of several keys, in an order that is not that of their IDs.
	c := api.Custody{Gaps: 2, Keys: []int{1, 2}, Entries: []api.Entry{lose(9, 2, 0, 0, 0), lose(3, 1, 0, 0, 0), find(6, 2, 0, 0, 0)}}
	got, e = custody.Without(c, []int{3, 2})
	c.Entries = []api.Entry{c.Entries[0], c.Entries[2]}
	sameBook(t, "Without", got, c, e)
}
