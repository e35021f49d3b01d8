package dial_test

import (
	"slices"
	"testing"

	"patrol/api"
	"patrol/dial"
)

var fair = api.Ink{Faint: 1, Stray: 1, Slip: 3}

func TestP1_6KeyAndInk(t *testing.T) {
	for _, k := range badKeys() {
		if e := dial.CheckKey(k); e != api.ErrArg {
			t.Error("CheckKey", k, e)
		}
	}
	for _, k := range []api.Key{key(1, 0, 1), key(api.MaxID, 3, api.AllPins), key(7, 2, 2048)} {
		if e := dial.CheckKey(k); e != api.OK {
			t.Error("CheckKey", k, e)
		}
	}
	for _, i := range badInks() {
		if e := dial.CheckInk(i); e != api.ErrArg {
			t.Error("CheckInk", i, e)
		}
	}
	for _, i := range []api.Ink{{}, {Faint: 4, Stray: 4, Slip: 600}, {Faint: 4}, {Stray: 4}, {Slip: 600}} {
		if e := dial.CheckInk(i); e != api.OK {
			t.Error("CheckInk", i, e)
		}
	}
}

func TestP1_6Keys(t *testing.T) {
	a, far, near, other := key(1, 0, 5), key(2, 0, 4080), key(3, 0, 9), key(4, 1, 5)
	bad, early := key(9, 0, 0), key(1, 0, 4080)
	badClash := append(manyKeys(api.MaxBunch), bad)
	for i, c := range []struct {
		l   []api.Key
		ink api.Ink
		e   api.Errno
		at  int
	}{
		{nil, fair, api.OK, -1}, {[]api.Key{}, fair, api.OK, -1}, {[]api.Key{a}, fair, api.OK, -1},
		{[]api.Key{a, far, other}, fair, api.OK, -1},
		{[]api.Key{a, far, near}, fair, api.ErrClash, 2}, // with a key that is not the one just before it
		{[]api.Key{a, near, bad}, fair, api.ErrClash, 1}, // the first key that is wrong counts
		{[]api.Key{bad, a, near}, fair, api.ErrArg, 0},
		{[]api.Key{a, far, bad}, fair, api.ErrArg, 2},
		{[]api.Key{a, early}, fair, api.ErrTwice, 1},      // the same ID
		{[]api.Key{near, far}, fair, api.ErrTwice, 1},     // a smaller one
		{[]api.Key{a, a}, fair, api.ErrTwice, 1},          // ErrTwice comes before ErrClash
		{[]api.Key{a, key(1, 4, 5)}, fair, api.ErrArg, 1}, // ErrArg comes before ErrTwice
		{[]api.Key{a, near}, api.Ink{Stray: 1}, api.ErrClash, 1},
		{[]api.Key{a, near}, api.Ink{Faint: 1}, api.ErrClash, 1},
		{[]api.Key{a, near}, api.Ink{Slip: 600}, api.OK, -1},
		{manyKeys(api.MaxBunch), api.Ink{}, api.OK, -1},
		{manyKeys(api.MaxBunch + 1), api.Ink{}, api.ErrLimit, -1},
		{badClash, api.Ink{}, api.ErrLimit, -1},
		{badClash, api.Ink{Faint: 5}, api.ErrArg, -1},
		{nil, api.Ink{Slip: 601}, api.ErrArg, -1},
	} {
		if e, at := dial.CheckKeys(c.l, c.ink); e != c.e || at != c.at {
			t.Error("CheckKeys", i, e, at)
		}
	}
	for _, ink := range badInks() {
		if e, at := dial.CheckKeys([]api.Key{bad}, ink); e != api.ErrArg || at != -1 {
			t.Error("CheckKeys", ink, e, at)
		}
	}
	for _, k := range badKeys() {
		if e, at := dial.CheckKeys([]api.Key{k}, fair); e != api.ErrArg || at != 0 {
			t.Error("CheckKeys", k, e, at)
		}
	}
}

func TestP1_6Random(t *testing.T) {
	c := chance(6)
	clashes := 0
	for range 500 {
		l, ink := c.bunch(5), c.ink()
		want, wantAt := api.OK, -1
		for k := range l {
			for j := range k {
				if wantAt < 0 && dial.Confusable(l[k], l[j], ink) {
					want, wantAt = api.ErrClash, k
				}
			}
		}
		if want != api.OK {
			clashes++
		}
		if e, at := dial.CheckKeys(l, ink); e != want || at != wantAt {
			t.Error("CheckKeys", l, ink, e, at)
		}
	}
	if clashes < 50 || clashes > 450 {
		t.Error("not an even test:", clashes)
	}
}

// confusedBySearch looks at all complete marks.
func confusedBySearch(p, q int, i api.Ink) bool {
	for seen := range api.AllPins + 1 {
		m := api.Mark{Seen: seen, Blank: api.AllPins &^ seen}
		if showsPins(m, p, i) && showsPins(m, q, i) {
			return true
		}
	}
	return false
}

// checkWitness checks that a mark is a witness of two keys.
func checkWitness(t *testing.T, a, b api.Key, i api.Ink, m api.Mark) {
	t.Helper()
	whole := m.Seen|m.Blank == api.AllPins && m.Seen&m.Blank == 0
	if dial.CheckMark(m) != api.OK || !whole || m.Track != a.Track || m.Track != b.Track || !showsPins(m, a.Pattern, i) || !showsPins(m, b.Pattern, i) {
		t.Error("Witness", a, b, i, m)
	}
}

func checkConfusable(t *testing.T, a, b api.Key, i api.Ink, want bool) {
	t.Helper()
	if is := dial.Confusable(a, b, i); is != want {
		t.Error("Confusable", a, b, i, is)
	}
	m, is := dial.Witness(a, b, i)
	if is != want || !is && m != (api.Mark{}) {
		t.Error("Witness", a, b, i, m, is)
	}
	if is {
		checkWitness(t, a, b, i, m)
	}
}

func TestP1_7Search(t *testing.T) {
	for n := range 25 {
		ink := api.Ink{Faint: n / 5, Stray: n % 5}
		for both := range 3 {
			for x := range 13 - both {
				for y := range 13 - both - x {
					// x pins of a alone, y pins of b alone, and pins of both
					p := 1<<x - 1 | (1<<both-1)<<(12-both)
					q := (1<<y-1)<<x | (1<<both-1)<<(12-both)
					want := p > 0 && q > 0 && confusedBySearch(p, q, ink)
					checkConfusable(t, key(1, 3, p), key(2, 3, q), ink, want)
					checkConfusable(t, key(2, 0, q), key(1, 0, p), ink, want)
				}
			}
		}
	}
	c := chance(7)
	for range 300 {
		a, b, ink := c.keyOf(1), c.keyOf(2), c.ink()
		checkConfusable(t, a, b, ink, a.Track == b.Track && confusedBySearch(a.Pattern, b.Pattern, ink))
	}
}

func TestP1_7Invalid(t *testing.T) {
	good := key(1, 0, 5)
	for _, k := range badKeys() {
		checkConfusable(t, k, good, fair, false)
		checkConfusable(t, good, k, fair, false)
		checkConfusable(t, k, k, fair, false)
	}
	for _, i := range badInks() {
		checkConfusable(t, good, good, i, false)
	}
	checkConfusable(t, good, good, fair, true)
	checkConfusable(t, good, key(1, 0, 5), api.Ink{}, true)
	checkConfusable(t, good, key(1, 1, 5), api.Ink{Faint: 4, Stray: 4}, false)
	checkConfusable(t, key(9, 3, 4095), key(9, 3, 15), api.Ink{Faint: 4, Stray: 4}, true)
	checkConfusable(t, key(9, 3, 4095), key(9, 3, 7), api.Ink{Faint: 4, Stray: 4}, false)
}

func TestP1_8Rival(t *testing.T) {
	l := []api.Key{key(3, 0, 1), key(5, 1, 1), key(7, 0, 240), key(8, 0, 48)}
	for i, c := range []struct {
		k    api.Key
		want int
		e    api.Errno
	}{{key(9, 0, 112), 7, api.OK}, {key(1, 0, 112), 7, api.OK}, {key(8, 0, 48), 3, api.OK}, {key(9, 0, 38), 8, api.OK}, {key(9, 2, 112), 0, api.ErrNone}, {key(9, 1, 112), 0, api.ErrNone}, {key(9, 1, 3), 5, api.OK}, {key(3, 0, 1), 3, api.OK}, {key(9, 0, 3584), 0, api.ErrNone}} {
		if id, e := dial.Rival(l, c.k, fair); id != c.want || e != c.e {
			t.Error("Rival", i, id, e)
		}
	}
	if id, e := dial.Rival(nil, l[0], fair); id != 0 || e != api.ErrNone {
		t.Error("Rival in no bunch:", id, e)
	}
	for _, k := range badKeys() {
		if id, e := dial.Rival(l, k, fair); id != 0 || e != api.ErrArg {
			t.Error("Rival", k, id, e)
		}
	}
	for _, i := range badInks() {
		if id, e := dial.Rival(l, l[0], i); id != 0 || e != api.ErrArg {
			t.Error("Rival", i, id, e)
		}
	}
	for _, bad := range badBunches() {
		if id, e := dial.Rival(bad, key(1, 0, 1), fair); id != 0 || e != api.ErrArg {
			t.Error("Rival", bad, id, e)
		}
	}
}

func TestP1_8Propose(t *testing.T) {
	c := chance(8)
	found := 0
	for range 400 {
		l, ink, track, from := c.bunch(8), c.ink(), c.n(api.Tracks), 1+c.n(api.AllPins)
		if c.n(3) == 0 {
			from = 1
		}
		want, wantE := 0, api.ErrNone
		for p := from; p <= api.AllPins && want == 0; p++ {
			k := key(1, track, p)
			if !slices.ContainsFunc(l, func(o api.Key) bool { return dial.Confusable(o, k, ink) }) {
				want, wantE = p, api.OK
			}
		}
		if want > from {
			found++
		}
		if p, e := dial.Propose(l, track, from, ink); p != want || e != wantE {
			t.Error("Propose", l, track, from, ink, p, e, "not", want, wantE)
		}
	}
	if found < 20 {
		t.Error("not an even test:", found)
	}
}

func TestP1_8ProposeEdges(t *testing.T) {
	l := []api.Key{key(3, 0, 1), key(5, 1, 1)}
	for i, c := range []struct {
		l           []api.Key
		track, from int
		ink         api.Ink
		want        int
		e           api.Errno
	}{
		{nil, 0, 1, fair, 1, api.OK}, {nil, 3, 4095, fair, 4095, api.OK}, {l, 2, 7, fair, 7, api.OK},
		{l, 0, 1, api.Ink{}, 2, api.OK}, {l, 0, 2, api.Ink{}, 2, api.OK},
		{[]api.Key{key(1, 0, 4095)}, 0, 4095, api.Ink{}, 0, api.ErrNone}, {[]api.Key{key(1, 0, 4095)}, 0, 4094, api.Ink{}, 4094, api.OK},
		{[]api.Key{key(1, 0, 4095)}, 0, 4094, fair, 0, api.ErrNone},
		{l, 0, 0, fair, 0, api.ErrArg}, {l, 0, -1, fair, 0, api.ErrArg}, {l, 0, 4096, fair, 0, api.ErrArg}, {l, 0, minInt, fair, 0, api.ErrArg}, {l, 0, maxInt, fair, 0, api.ErrArg},
		{l, -1, 1, fair, 0, api.ErrArg}, {l, 4, 1, fair, 0, api.ErrArg},
		{[]api.Key{key(1, 0, 4095)}, 0, 4095, api.Ink{Slip: 601}, 0, api.ErrArg},
	} {
		if p, e := dial.Propose(c.l, c.track, c.from, c.ink); p != c.want || e != c.e {
			t.Error("Propose", i, p, e)
		}
	}
	for _, bad := range badBunches() {
		if p, e := dial.Propose(bad, 2, 1, fair); p != 0 || e != api.ErrArg {
			t.Error("Propose", bad, p, e)
		}
	}
	for _, i := range badInks() {
		if p, e := dial.Propose(nil, 0, 1, i); p != 0 || e != api.ErrArg {
			t.Error("Propose", i, p, e)
		}
	}
	if p, e := dial.Propose(manyKeys(api.MaxBunch), 0, 1, api.Ink{}); p != 2 || e != api.OK {
		t.Error("Propose for the largest bunch:", p, e)
	}
}
