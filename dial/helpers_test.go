package dial_test

import (
	"math/bits"
	"slices"
	"testing"

	"patrol/api"
)

const (
	maxInt = 1<<63 - 1
	minInt = -1 << 63
)

// chance is a generator of numbers that are the same in each run.
type chance uint64

// n returns a number from 0 to limit - 1.
func (c *chance) n(limit int) int {
	*c = *c*6364136223846793005 + 1442695040888963407
	return int(uint64(*c)>>33) % limit
}

func (c *chance) pick(l ...int) int { return l[c.n(len(l))] }

// arc returns a valid arc, often one near the angle 0, or one that is nearly the whole circle.
func (c *chance) arc() api.Arc {
	from := c.pick(c.n(api.Ring), api.Ring-1-c.n(8), c.n(8), 100+c.n(20))
	long := c.pick(0, c.n(6), c.n(30), c.n(api.Ring-1), api.Ring-2-c.n(4), api.Ring/2-2+c.n(4))
	if c.n(60) == 0 {
		return api.Arc{Len: api.Ring - 1}
	}
	return api.Arc{From: from, Len: long}
}

func (c *chance) arcs(most int) []api.Arc {
	var l []api.Arc
	for range c.n(most + 1) {
		if c.n(3) > 0 { // short ones, so that several stay apart
			l = append(l, api.Arc{From: c.pick(c.n(api.Ring), (api.Ring-10+c.n(20))%api.Ring), Len: c.n(5)})
		} else {
			l = append(l, c.arc())
		}
	}
	return l
}

func (c *chance) ink() api.Ink {
	return api.Ink{Faint: c.n(api.MaxFaint + 1), Stray: c.n(api.MaxFaint + 1), Slip: c.pick(0, 1, c.n(601), 600)}
}

// pins returns a set of pins; it has few of them if thin is great.
func (c *chance) pins(thin int) int {
	set := api.AllPins
	for range thin {
		set &= c.n(api.AllPins + 1)
	}
	return set
}

func (c *chance) keyOf(id int) api.Key {
	for {
		if p := c.pins(1 + c.n(2)); p > 0 {
			return api.Key{ID: id, Track: c.n(2), Pattern: p}
		}
	}
}

// bunch returns a bunch of some keys.
func (c *chance) bunch(most int) []api.Key {
	var l []api.Key
	id := 0
	for range c.n(most + 1) {
		id += 1 + c.n(5)
		l = append(l, c.keyOf(id))
	}
	return l
}

func (c *chance) mark() api.Mark {
	seen := c.pins(1 + c.n(3))
	return api.Mark{At: c.arc(), Track: c.n(2), Seen: seen, Blank: c.pins(c.n(3)) &^ seen}
}

func (c *chance) subset(set, most int) int {
	sub := 0
	for range most {
		if set &= c.n(api.AllPins + 1); set != 0 {
			sub |= set & -set
			set &^= sub
		}
	}
	return sub
}

// blow returns a blow that an ink allows for a set of pins.
func (c *chance) blow(set int, i api.Ink) api.Blow {
	miss, dirt := c.subset(set, i.Faint), c.subset(api.AllPins&^set, i.Stray)
	free := api.AllPins &^ set & c.n(api.AllPins+1) // pins that cannot miss, and dirt that does not show
	return api.Blow{Miss: miss | free, Dirt: dirt | set&c.n(api.AllPins+1), Shift: c.pick(-i.Slip, i.Slip, 0, c.n(2*i.Slip+1)-i.Slip)}
}

// set is a set of angles.
type set [api.Ring]bool

func setOf(l []api.Arc) *set {
	var s set
	for _, x := range l {
		for k := 0; k <= x.Len; k++ {
			s[(x.From+k)%api.Ring] = true
		}
	}
	return &s
}

// normal returns the normal list of a set, angle by angle.
func (s *set) normal() []api.Arc {
	var l []api.Arc
	for a := range s {
		if !s[a] || s[(a+api.Ring-1)%api.Ring] {
			continue
		}
		n := 0
		for s[(a+n+1)%api.Ring] {
			n++
		}
		l = append(l, api.Arc{From: a, Len: n})
	}
	if len(l) == 0 && s[0] {
		return []api.Arc{{Len: api.Ring - 1}}
	}
	return l
}

// grown returns the set of the angles that are at most by apart from one of s.
func (s *set) grown(by int) *set {
	var g set
	for _, step := range []int{1, api.Ring - 1} { // clockwise, and counterclockwise
		left, at := -1, 0
		for range 2 * api.Ring { // once around to begin, once more for what leads over the angle 0
			if s[at] {
				left = by
			}
			g[at] = g[at] || left >= 0
			left--
			at = (at + step) % api.Ring
		}
	}
	return &g
}

func (s *set) size() int {
	n := 0
	for _, is := range s {
		if is {
			n++
		}
	}
	return n
}

func count(pins int) int { return bits.OnesCount(uint(pins)) }

// showsPins is the definition of a mark that shows a set of pins.
func showsPins(m api.Mark, p int, i api.Ink) bool {
	return count(p&m.Blank) <= i.Faint && count(m.Seen&^p) <= i.Stray
}

func arcs(n ...int) []api.Arc {
	var l []api.Arc
	for k := 0; k+1 < len(n); k += 2 {
		l = append(l, api.Arc{From: n[k], Len: n[k+1]})
	}
	return l
}

func key(id, track, pattern int) api.Key { return api.Key{ID: id, Track: track, Pattern: pattern} }

// manyKeys returns n valid keys in order.
func manyKeys(n int) []api.Key {
	var l []api.Key
	for k := range n {
		l = append(l, key(k+1, k%api.Tracks, k+1))
	}
	return l
}

// badBunches returns lists of keys that are no bunches.
func badBunches() [][]api.Key {
	return [][]api.Key{
		manyKeys(api.MaxBunch + 1),
		{key(2, 0, 1), key(1, 0, 6)},
		{key(1, 0, 1), key(1, 1, 1)},
		{key(1, 0, 1), key(2, 0, 0)},
		{key(0, 0, 1)},
		{key(1, 0, 1), key(2, 4, 1)},
	}
}

func badKeys() []api.Key {
	return []api.Key{{}, key(0, 0, 1), key(-1, 0, 1), key(minInt, 0, 1), key(api.MaxID+1, 0, 1), key(maxInt, 0, 1), key(1, -1, 1), key(1, 4, 1), key(1, 0, 0), key(1, 0, -1), key(1, 0, 4096), key(1, 0, minInt), key(1, minInt, 1), key(1, maxInt, 1), key(1, 0, maxInt)}
}

func badInks() []api.Ink {
	return []api.Ink{{Faint: -1}, {Faint: 5}, {Stray: -1}, {Stray: 5}, {Slip: -1}, {Slip: 601}, {Faint: minInt}, {Faint: maxInt}, {Stray: minInt}, {Stray: maxInt}, {Slip: minInt}, {Slip: maxInt}}
}

func badArcs() []api.Arc {
	return arcs(-1, 0, api.Ring, 0, 0, -1, 0, api.Ring, 1, api.Ring-1, api.Ring-1, api.Ring-1, minInt, 0, maxInt, 0, 0, minInt, 0, maxInt, maxInt, maxInt, minInt, minInt, -1, api.Ring-1, api.Ring, api.Ring-1)
}

func badMarks() []api.Mark {
	l := []api.Mark{{Track: -1}, {Track: 4}, {Track: minInt}, {Track: maxInt}, {Seen: -1}, {Seen: 4096}, {Blank: -1}, {Blank: 4096}, {Seen: minInt}, {Blank: minInt}, {Seen: maxInt}, {Blank: maxInt}, {Seen: 1, Blank: 1}, {Seen: 4095, Blank: 2048}}
	for _, x := range badArcs() {
		l = append(l, api.Mark{At: x})
	}
	return l
}

func same[T comparable](t *testing.T, what string, got, want []T) {
	t.Helper()
	if !slices.Equal(got, want) {
		t.Errorf("%s: %v, not %v", what, got, want)
	}
}
