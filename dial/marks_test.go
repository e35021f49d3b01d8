package dial_test

import (
	"slices"
	"testing"

	"patrol/api"
	"patrol/dial"
)

func mark(from, long, track, seen, blank int) api.Mark {
	return api.Mark{At: api.Arc{From: from, Len: long}, Track: track, Seen: seen, Blank: blank}
}

func TestP1_9(t *testing.T) {
	for _, m := range []api.Mark{{}, mark(0, api.Ring-1, 3, 4095, 0), mark(api.Ring-1, api.Ring-2, 0, 0, 4095), mark(5, 5, 1, 2047, 2048), mark(0, 0, 2, 1, 2)} {
		if e := dial.CheckMark(m); e != api.OK {
			t.Error("CheckMark", m, e)
		}
	}
	for _, m := range badMarks() {
		if e := dial.CheckMark(m); e != api.ErrArg {
			t.Error("CheckMark", m, e)
		}
	}
}

// full returns the complete mark in which some pins are seen.
func full(from, long, track, seen int) api.Mark {
	return mark(from, long, track, seen, api.AllPins&^seen)
}

func TestP1_10Strike(t *testing.T) {
	k, ink := key(3, 1, 5), api.Ink{Faint: 1, Stray: 2, Slip: 600}
	for i, c := range []struct {
		at   int
		b    api.Blow
		want api.Mark
		e    api.Errno
	}{
		{100, api.Blow{}, full(100, 0, 1, 5), api.OK},
		{100, api.Blow{Miss: 4, Dirt: 8, Shift: -2}, full(98, 0, 1, 9), api.OK},
		{0, api.Blow{Shift: -600}, full(42600, 0, 1, 5), api.OK},
		{api.Ring - 1, api.Blow{Shift: 600}, full(599, 0, 1, 5), api.OK},
		{-1, api.Blow{Shift: 1}, full(0, 0, 1, 5), api.OK},
		{maxInt, api.Blow{Shift: 600}, full(mod(maxInt, -600), 0, 1, 5), api.OK},
		{maxInt, api.Blow{Shift: 1}, full(mod(maxInt, -1), 0, 1, 5), api.OK},
		{minInt, api.Blow{Shift: -600}, full(mod(minInt, 600), 0, 1, 5), api.OK},
		{7, api.Blow{Miss: 1, Dirt: 1}, full(7, 0, 1, 5), api.OK},      // dirt where the pin missed
		{7, api.Blow{Miss: 4091, Dirt: 13}, full(7, 0, 1, 13), api.OK}, // other pins cannot miss; dirt on pins of the key does not show
		{7, api.Blow{Dirt: 5 + 2 + 8}, full(7, 0, 1, 15), api.OK},
		{7, api.Blow{Miss: 5}, api.Mark{}, api.ErrRange},          // too many miss
		{7, api.Blow{Miss: 5, Dirt: 5}, api.Mark{}, api.ErrRange}, // even with dirt there
		{7, api.Blow{Dirt: 2 + 8 + 16}, api.Mark{}, api.ErrRange}, // too much dirt
		{7, api.Blow{Shift: 601}, api.Mark{}, api.ErrRange},
		{7, api.Blow{Shift: -601}, api.Mark{}, api.ErrRange},
		{7, api.Blow{Shift: maxInt}, api.Mark{}, api.ErrRange},
		{7, api.Blow{Shift: minInt}, api.Mark{}, api.ErrRange},
		{7, api.Blow{Miss: 4096}, api.Mark{}, api.ErrArg},
		{7, api.Blow{Miss: -1}, api.Mark{}, api.ErrArg},
		{7, api.Blow{Dirt: 4096, Shift: 601}, api.Mark{}, api.ErrArg}, // ErrArg comes before ErrRange
		{7, api.Blow{Dirt: -1, Miss: 5}, api.Mark{}, api.ErrArg},
		{7, api.Blow{Miss: 4095, Dirt: 4095, Shift: 601}, api.Mark{}, api.ErrRange},
		{7, api.Blow{Miss: minInt, Dirt: maxInt}, api.Mark{}, api.ErrArg},
		{7 + 5*api.Ring, api.Blow{Miss: 4095 - 5}, full(7, 0, 1, 5), api.OK},
		{7 - 9*api.Ring, api.Blow{Miss: 4095 - 4, Dirt: 6}, full(7, 0, 1, 6), api.OK},
	} {
		if got, e := dial.Strike(k, c.at, c.b, ink); got != c.want || e != c.e {
			t.Error("Strike", i, got, e)
		}
	}
	for _, bad := range badKeys() {
		if got, e := dial.Strike(bad, 7, api.Blow{Shift: 601}, ink); got != (api.Mark{}) || e != api.ErrArg {
			t.Error("Strike", bad, got, e)
		}
	}
	for _, bad := range badInks() {
		if got, e := dial.Strike(k, 7, api.Blow{}, bad); got != (api.Mark{}) || e != api.ErrArg {
			t.Error("Strike", bad, got, e)
		}
	}
}

func TestP1_10Twice(t *testing.T) {
	k, o, ink := key(3, 1, 5), key(4, 1, 12), api.Ink{Faint: 1, Stray: 1, Slip: 3} // pin 2 is of both
	for i, c := range []struct {
		k, o      api.Key
		at, apart int
		b         api.Blow
		want      api.Mark
		e         api.Errno
	}{
		{k, o, 100, 0, api.Blow{}, full(100, 0, 1, 13), api.OK},
		{o, k, 100, 60, api.Blow{Shift: 3}, full(103, 60, 1, 13), api.OK},
		{k, o, 43190, 20, api.Blow{Shift: -3}, full(43187, 20, 1, 13), api.OK},
		{k, o, -2, 60, api.Blow{}, full(43198, 60, 1, 13), api.OK},
		{k, o, maxInt, 60, api.Blow{Shift: 3}, full(mod(maxInt, -3), 60, 1, 13), api.OK},
		{k, o, minInt, 60, api.Blow{Shift: -3}, full(mod(minInt, 3), 60, 1, 13), api.OK},
		{k, o, 9, 1, api.Blow{Miss: 4}, full(9, 1, 1, 9), api.OK},       // a pin of both misses once
		{k, o, 9, 1, api.Blow{Miss: 9}, api.Mark{}, api.ErrRange},       // a pin of each key
		{k, o, 9, 1, api.Blow{Dirt: 13 + 2}, full(9, 1, 1, 15), api.OK}, // dirt on pins of either key does not show
		{k, o, 9, 1, api.Blow{Miss: 8, Dirt: 16}, full(9, 1, 1, 21), api.OK},
		{k, o, 9, 1, api.Blow{Miss: 4082, Dirt: 2}, full(9, 1, 1, 15), api.OK},
		{k, o, 9, 1, api.Blow{Dirt: 2 + 16}, api.Mark{}, api.ErrRange},
		{k, o, 9, 1, api.Blow{Shift: 4}, api.Mark{}, api.ErrRange},
		{k, o, 9, 1, api.Blow{Shift: -4}, api.Mark{}, api.ErrRange},
		{k, o, 9, 61, api.Blow{}, api.Mark{}, api.ErrArg},
		{k, o, 9, -1, api.Blow{}, api.Mark{}, api.ErrArg},
		{k, o, 9, minInt, api.Blow{}, api.Mark{}, api.ErrArg},
		{k, o, 9, maxInt, api.Blow{Shift: 4}, api.Mark{}, api.ErrArg},
		{k, key(3, 1, 12), 9, 1, api.Blow{Shift: 4}, api.Mark{}, api.ErrArg}, // the same ID
		{k, key(4, 2, 12), 9, 1, api.Blow{Shift: 4}, api.Mark{}, api.ErrArg}, // another Track
		{k, key(4, 1, 5), 9, 1, api.Blow{}, full(9, 1, 1, 5), api.OK},        // the same pins
		{k, o, 9, 1, api.Blow{Miss: 4096, Shift: 4}, api.Mark{}, api.ErrArg},
		{k, o, 9, 1, api.Blow{Miss: -1}, api.Mark{}, api.ErrArg},
		{k, o, 9, 1, api.Blow{Dirt: 4096}, api.Mark{}, api.ErrArg},
		{k, o, 9, 1, api.Blow{Dirt: -1}, api.Mark{}, api.ErrArg},
		{k, o, 9, 1, api.Blow{Miss: 4095, Dirt: 4095}, api.Mark{}, api.ErrRange},
		{k, o, 9 + 3*api.Ring, 1, api.Blow{Shift: 0}, full(9, 1, 1, 13), api.OK},
	} {
		if got, e := dial.Twice(c.k, c.o, c.at, c.apart, c.b, ink); got != c.want || e != c.e {
			t.Error("Twice", i, got, e)
		}
	}
	// The last ones are wrong in nothing but what makes them bad.
	for _, bad := range append(badKeys(), key(9, 1, 0), key(9, 1, -1), key(9, 1, 4096), key(0, 1, 1), key(api.MaxID+1, 1, 1)) {
		for _, l := range [][2]api.Key{{bad, o}, {o, bad}} {
			if got, e := dial.Twice(l[0], l[1], 7, 7, api.Blow{Shift: 4}, ink); got != (api.Mark{}) || e != api.ErrArg {
				t.Error("Twice", l, got, e)
			}
		}
	}
	for _, track := range []int{-1, api.Tracks, minInt, maxInt} {
		if got, e := dial.Twice(key(3, track, 5), key(4, track, 12), 7, 7, api.Blow{}, ink); got != (api.Mark{}) || e != api.ErrArg {
			t.Error("Twice on the Track", track, got, e)
		}
	}
	for _, bad := range badInks() {
		if got, e := dial.Twice(k, o, 7, 7, api.Blow{}, bad); got != (api.Mark{}) || e != api.ErrArg {
			t.Error("Twice", bad, got, e)
		}
	}
}

func TestP1_11Blur(t *testing.T) {
	c := chance(11)
	for range 150 {
		m, unclear := c.mark(), c.pins(c.n(3))
		by := c.pick(0, 1, 60, c.n(api.Ring), api.Ring/2-m.At.Len/2+c.n(3)-2, api.Ring, api.Ring-1)
		if by < 0 {
			continue
		}
		at := setOf([]api.Arc{m.At}).grown(by).normal()
		want := mark(at[0].From, at[0].Len, m.Track, m.Seen&^unclear, m.Blank&^unclear)
		if got, e := dial.Blur(m, by, unclear); got != want || e != api.OK || len(at) != 1 {
			t.Error("Blur", m, by, unclear, got, e, "not", want)
		}
	}
	good := mark(3, 4, 2, 5, 10)
	for _, bad := range badMarks() {
		if got, e := dial.Blur(bad, 1, 1); got != (api.Mark{}) || e != api.ErrArg {
			t.Error("Blur", bad, got, e)
		}
	}
	for _, by := range []int{-1, api.Ring + 1, minInt, maxInt} {
		if got, e := dial.Blur(good, by, 1); got != (api.Mark{}) || e != api.ErrArg {
			t.Error("Blur by", by, got, e)
		}
	}
	for _, unclear := range []int{-1, 4096, minInt, maxInt} {
		if got, e := dial.Blur(good, 1, unclear); got != (api.Mark{}) || e != api.ErrArg {
			t.Error("Blur", unclear, got, e)
		}
	}
	if got, e := dial.Blur(good, 0, 0); got != good || e != api.OK {
		t.Error("Blur by nothing:", got, e)
	}
	if got, e := dial.Blur(good, api.Ring, api.AllPins); got != mark(0, api.Ring-1, 2, 0, 0) || e != api.OK {
		t.Error("Blur of all:", got, e)
	}
}

func TestP1_11Sharpen(t *testing.T) {
	wide := mark(90, 10, 1, 1, 16)
	whole := mark(0, api.Ring-1, 1, 0, 0)
	for i, c := range []struct {
		a, b, want api.Mark
		e          api.Errno
	}{
		{wide, wide, wide, api.OK}, {wide, whole, wide, api.OK}, {whole, whole, whole, api.OK},
		{wide, mark(95, 100, 1, 3, 32), mark(95, 5, 1, 3, 48), api.OK},
		{wide, mark(100, 0, 1, 0, 0), mark(100, 0, 1, 1, 16), api.OK},
		{mark(43190, 20, 1, 2, 0), mark(43195, 3000, 1, 0, 4), mark(43195, 15, 1, 2, 4), api.OK},
		{mark(43190, 20, 1, 0, 0), mark(0, 3000, 1, 0, 0), mark(0, 10, 1, 0, 0), api.OK},
		{mark(43190, 20, 1, 0, 0), mark(43000, 199, 1, 0, 0), mark(43190, 9, 1, 0, 0), api.OK},
		{mark(5, api.Ring-2, 1, 0, 0), mark(4, 0, 1, 0, 0), api.Mark{}, api.ErrNone},
		{mark(5, api.Ring-2, 1, 0, 0), mark(4, 1, 1, 0, 0), mark(5, 0, 1, 0, 0), api.OK},
		{mark(5, api.Ring-2, 1, 0, 0), mark(3, 2, 1, 0, 0), api.Mark{}, api.ErrRange}, // the angles 3 and 5
		{mark(5, api.Ring-2, 1, 0, 0), mark(5, api.Ring-2, 1, 8, 0), mark(5, api.Ring-2, 1, 8, 0), api.OK},
		{mark(5, api.Ring-2, 1, 0, 0), mark(6, api.Ring-2, 1, 0, 0), mark(6, api.Ring-3, 1, 0, 0), api.OK}, // all but 4 and 5
		{mark(5, api.Ring-2, 1, 0, 0), mark(7, api.Ring-2, 1, 0, 0), api.Mark{}, api.ErrRange},             // all but 4 and 6
		{mark(0, 21600, 1, 0, 0), mark(21600, 21600, 1, 0, 0), api.Mark{}, api.ErrRange},
		{mark(0, 21600, 1, 0, 0), mark(21601, 21598, 1, 0, 0), api.Mark{}, api.ErrNone},
		{wide, mark(89, 0, 1, 0, 0), api.Mark{}, api.ErrNone}, {wide, mark(101, 5, 1, 0, 0), api.Mark{}, api.ErrNone},
		{wide, mark(95, 5, 2, 0, 0), api.Mark{}, api.ErrClash},   // another Track
		{wide, mark(95, 5, 1, 16, 0), api.Mark{}, api.ErrClash},  // blank, and seen
		{wide, mark(95, 5, 1, 0, 1), api.Mark{}, api.ErrClash},   // seen, and blank
		{wide, mark(200, 5, 2, 1, 16), api.Mark{}, api.ErrClash}, // ErrClash comes before ErrNone
		{wide, mark(200, 5, 1, 16, 0), api.Mark{}, api.ErrClash},
		{mark(0, 21600, 1, 1, 0), mark(21600, 21600, 1, 0, 1), api.Mark{}, api.ErrClash}, // and before ErrRange
	} {
		if got, e := dial.Sharpen(c.a, c.b); got != c.want || e != c.e {
			t.Error("Sharpen", i, got, e)
		}
		if got, e := dial.Sharpen(c.b, c.a); got != c.want || e != c.e {
			t.Error("Sharpen backwards", i, got, e)
		}
	}
	for _, bad := range badMarks() { // also if it clashes, and has no common angle
		other := mark(200, 5, 1, 2, 1)
		for _, l := range [][2]api.Mark{{bad, other}, {other, bad}, {bad, bad}} {
			if got, e := dial.Sharpen(l[0], l[1]); got != (api.Mark{}) || e != api.ErrArg {
				t.Error("Sharpen", l, got, e)
			}
		}
	}
}

func TestP1_11SharpenRandom(t *testing.T) {
	c := chance(12)
	met := map[api.Errno]int{}
	for range 600 {
		a, b := c.mark(), c.mark()
		if c.n(3) > 0 { // else they nearly always clash
			b.Track, b.Seen, b.Blank = a.Track, b.Seen&^a.Blank, b.Blank&^a.Seen
		}
		in, other := setOf([]api.Arc{a.At}), setOf([]api.Arc{b.At})
		for x := range in {
			in[x] = in[x] && other[x]
		}
		at := in.normal()
		var want api.Mark
		wantE := api.OK
		switch {
		case a.Track != b.Track || a.Seen&b.Blank != 0 || a.Blank&b.Seen != 0:
			wantE = api.ErrClash
		case len(at) == 0:
			wantE = api.ErrNone
		case len(at) > 1:
			wantE = api.ErrRange
		default:
			want = api.Mark{At: at[0], Track: a.Track, Seen: a.Seen | b.Seen, Blank: a.Blank | b.Blank}
		}
		met[wantE]++
		if got, e := dial.Sharpen(a, b); got != want || e != wantE {
			t.Error("Sharpen", a, b, got, e, "not", want, wantE)
		}
	}
	for _, e := range []api.Errno{api.OK, api.ErrClash, api.ErrNone, api.ErrRange} {
		if met[e] < 10 {
			t.Error("not an even test:", met)
		}
	}
}

// checkReaders compares Makers, Pairs and Angles with their definitions.
func checkReaders(t *testing.T, l []api.Key, m api.Mark, i api.Ink) (int, int) {
	t.Helper()
	var ids []int
	var pairs [][2]int
	for n, k := range l {
		var at []api.Arc
		if k.Track == m.Track && showsPins(m, k.Pattern, i) {
			ids = append(ids, k.ID)
			at = setOf([]api.Arc{m.At}).grown(i.Slip).normal()
		}
		if got, e := dial.Angles(k, m, i); e != api.OK || !slices.Equal(got, at) {
			t.Error("Angles", k, m, i, got, e, "not", at)
		}
		for _, o := range l[n+1:] {
			if k.Track == m.Track && o.Track == m.Track && showsPins(m, k.Pattern|o.Pattern, i) {
				pairs = append(pairs, [2]int{k.ID, o.ID})
			}
		}
	}
	if got, e := dial.Makers(l, m, i); e != api.OK || !slices.Equal(got, ids) {
		t.Error("Makers", l, m, i, got, e, "not", ids)
	}
	if got, e := dial.Pairs(l, m, i); e != api.OK || !slices.Equal(got, pairs) {
		t.Error("Pairs", l, m, i, got, e, "not", pairs)
	}
	return len(ids), len(pairs)
}

func TestP1_12And13(t *testing.T) {
	c := chance(13)
	makers, pairs := 0, 0
	for range 250 {
		l, m, i := c.bunch(7), c.mark(), c.ink()
		one, two := checkReaders(t, l, m, i)
		makers, pairs = makers+one, pairs+two
	}
	if makers < 50 || pairs < 50 {
		t.Error("not an even test:", makers, pairs)
	}
}

func TestP1_12Edges(t *testing.T) {
	ink := api.Ink{Faint: 2, Stray: 1}
	l := []api.Key{key(2, 0, 7), key(5, 0, 56), key(8, 0, 63), key(11, 1, 7), key(12, 1, 2048), key(api.MaxID, 0, 4095)}
	for i, c := range []struct {
		m     api.Mark
		ids   []int
		pairs [][2]int
	}{
		{mark(0, 0, 0, 0, 3), []int{2, 5, 8, api.MaxID}, [][2]int{{2, 5}, {2, 8}, {2, api.MaxID}, {5, 8}, {5, api.MaxID}, {8, api.MaxID}}},
		{mark(0, 0, 0, 0, 7), []int{5}, nil}, // three of the pins of the key 2 are faint
		{mark(0, 0, 0, 8, 3), []int{2, 5, 8, api.MaxID}, [][2]int{{2, 5}, {2, 8}, {2, api.MaxID}, {5, 8}, {5, api.MaxID}, {8, api.MaxID}}},
		{mark(0, 0, 0, 27, 0), []int{8, api.MaxID}, [][2]int{{2, 5}, {2, 8}, {2, api.MaxID}, {5, 8}, {5, api.MaxID}, {8, api.MaxID}}}, // two stray pins for the keys 2 and 5 alone
		{full(9, 60, 0, 63), []int{8}, [][2]int{{2, 5}, {2, 8}, {5, 8}}},
		{full(9, api.Ring-3, 1, 7), []int{11}, [][2]int{{11, 12}}},
		{full(9, 0, 1, 2055), []int{11}, [][2]int{{11, 12}}},
		{full(9, 0, 1, 2054), []int{11}, [][2]int{{11, 12}}},
		{full(9, 0, 1, 2068), nil, [][2]int{{11, 12}}},
		{full(9, 0, 2, 7), nil, nil},
		{mark(0, 0, 3, 0, 0), nil, nil},
	} {
		if got, e := dial.Makers(l, c.m, ink); e != api.OK || !slices.Equal(got, c.ids) {
			t.Error("Makers", i, got, e)
		}
		if got, e := dial.Pairs(l, c.m, ink); e != api.OK || !slices.Equal(got, c.pairs) {
			t.Error("Pairs", i, got, e)
		}
	}
	all := make([]api.Key, api.MaxBunch)
	for k := range all {
		all[k] = key(k+1, 2, 1)
	}
	if ids, pairs := checkReaders(t, all, mark(0, 0, 2, 1, 2), ink); ids != 40 || pairs != 780 {
		t.Error("the largest bunch:", ids, pairs)
	}
	checkReaders(t, nil, mark(0, 0, 0, 0, 0), ink)
}

func TestP1_12To14Errors(t *testing.T) {
	l, m := []api.Key{key(1, 0, 1)}, mark(0, 0, 0, 1, 0)
	check := func(what any, l []api.Key, m api.Mark, i api.Ink) {
		t.Helper()
		if got, e := dial.Makers(l, m, i); e != api.ErrArg || len(got) != 0 {
			t.Error("Makers", what, got, e)
		}
		if got, e := dial.Pairs(l, m, i); e != api.ErrArg || len(got) != 0 {
			t.Error("Pairs", what, got, e)
		}
		if got, e := dial.Unread(l, []api.Mark{{Track: 1}, m}, i); e != api.ErrArg || len(got) != 0 {
			t.Error("Unread", what, got, e)
		}
	}
	for _, bad := range badBunches() {
		check(bad, bad, m, fair)
		if got, e := dial.Unread(bad, make([]api.Mark, api.MaxMarks+1), fair); e != api.ErrArg || len(got) != 0 {
			t.Error("Unread", bad, got, e)
		}
	}
	for _, bad := range badMarks() {
		check(bad, l, bad, fair)
		if got, e := dial.Angles(l[0], bad, fair); e != api.ErrArg || len(got) != 0 {
			t.Error("Angles", bad, got, e)
		}
	}
	for _, bad := range badInks() {
		check(bad, l, m, bad)
		if got, e := dial.Angles(l[0], m, bad); e != api.ErrArg || len(got) != 0 {
			t.Error("Angles", bad, got, e)
		}
		if got, e := dial.Unread(l, make([]api.Mark, api.MaxMarks+1), bad); e != api.ErrArg || len(got) != 0 {
			t.Error("Unread", bad, got, e)
		}
		if got, e := dial.Unread(nil, nil, bad); e != api.ErrArg || len(got) != 0 {
			t.Error("Unread of nothing", bad, got, e)
		}
	}
	for _, bad := range badKeys() {
		if got, e := dial.Angles(bad, m, fair); e != api.ErrArg || len(got) != 0 {
			t.Error("Angles", bad, got, e)
		}
	}
}

func TestP1_13Edges(t *testing.T) {
	k := key(1, 0, 3)
	for i, c := range []struct {
		m    api.Mark
		slip int
		want []api.Arc
	}{
		{full(0, 0, 0, 3), 0, arcs(0, 0)}, {full(0, 0, 0, 3), 600, arcs(42600, 1200)}, {full(43199, 1, 0, 3), 1, arcs(43198, 3)},
		{full(599, 0, 0, 3), 600, arcs(43199, 1200)}, {full(600, 0, 0, 3), 600, arcs(0, 1200)},
		{full(7, api.Ring-2, 0, 3), 0, arcs(7, api.Ring-2)}, {full(7, api.Ring-2, 0, 3), 1, arcs(0, api.Ring-1)}, {full(0, api.Ring-1, 0, 3), 0, arcs(0, api.Ring-1)},
		{full(1000, api.Ring-1-1200, 0, 3), 600, arcs(0, api.Ring-1)}, {full(1000, api.Ring-2-1200, 0, 3), 600, arcs(400, api.Ring-2)},
		{full(0, 0, 0, 0), 600, nil}, {full(0, 0, 1, 3), 600, nil}, {mark(0, 0, 0, 0, 0), 2, arcs(43198, 4)},
	} {
		if got, e := dial.Angles(k, c.m, api.Ink{Slip: c.slip}); e != api.OK || !slices.Equal(got, c.want) {
			t.Error("Angles", i, got, e)
		}
	}
}

func TestP1_14(t *testing.T) {
	l := []api.Key{key(1, 0, 7), key(2, 0, 56), key(3, 1, 1)}
	ms := []api.Mark{
		full(0, 0, 0, 7),    // one key
		full(0, 0, 0, 3),    // none
		full(0, 0, 0, 63),   // two keys together
		mark(0, 0, 2, 0, 0), // no key has the Track
		mark(0, 0, 0, 0, 0), // anything
		full(0, 0, 1, 0),
		full(0, 0, 1, 1),
	}
	for i, c := range []struct {
		l    []api.Key
		ms   []api.Mark
		want []int
		e    api.Errno
	}{
		{l, ms, []int{1, 3, 5}, api.OK}, {nil, ms, []int{0, 1, 2, 3, 4, 5, 6}, api.OK}, {l, nil, nil, api.OK}, {nil, nil, nil, api.OK},
		{l, make([]api.Mark, api.MaxMarks), nil, api.OK}, {l, make([]api.Mark, api.MaxMarks+1), nil, api.ErrLimit},
		{l, append(make([]api.Mark, api.MaxMarks), api.Mark{Seen: -1}), nil, api.ErrLimit},
		{l, append(make([]api.Mark, api.MaxMarks-1), api.Mark{Seen: -1}), nil, api.ErrArg},
		{l, append([]api.Mark{{Seen: -1}}, ms...), nil, api.ErrArg},
	} {
		if got, e := dial.Unread(c.l, c.ms, api.Ink{}); e != c.e || !slices.Equal(got, c.want) {
			t.Error("Unread", i, got, e)
		}
	}
	c := chance(14)
	for range 200 {
		l, i := c.bunch(4), c.ink()
		var ms []api.Mark
		var want []int
		for n := range c.n(8) {
			ms = append(ms, c.mark())
			one, _ := dial.Makers(l, ms[n], i)
			two, _ := dial.Pairs(l, ms[n], i)
			if len(one)+len(two) == 0 {
				want = append(want, n)
			}
		}
		if got, e := dial.Unread(l, ms, i); e != api.OK || !slices.Equal(got, want) {
			t.Error("Unread", l, ms, i, got, e, "not", want)
		}
	}
}
