package dial_test

import (
	"testing"

	"patrol/api"
	"patrol/dial"
)

func TestExamplesCircle(t *testing.T) {
	if dial.Ahead(43190, 10) != 20 || dial.Apart(43190, 10) != 20 || dial.Apart(10, 43190) != 20 || dial.Angle(-1) != 43199 {
		t.Error("the circle")
	}
	l, _ := dial.Normal(arcs(43195, 9, 0, 20))
	same(t, "Normal", l, arcs(43195, 25))
	l, _ = dial.Minus(l, arcs(5, 0))
	same(t, "Minus", l, arcs(6, 14, 43195, 9))
	l, _ = dial.Grow(arcs(43199, 0), 2)
	same(t, "Grow", l, arcs(43197, 4))
	if n, e := dial.Size(l); n != 5 || e != api.OK {
		t.Error("Size", n, e)
	}
}

func TestExamplesMarks(t *testing.T) {
	k := key(3, 1, 5)
	m, e := dial.Strike(k, 100, api.Blow{Miss: 4, Dirt: 8, Shift: -2}, fair)
	if m != mark(98, 0, 1, 9, 4086) || e != api.OK {
		t.Error("Strike", m, e)
	}
	at, _ := dial.Angles(k, m, fair)
	same(t, "Angles", at, arcs(95, 6))
	if !dial.Confusable(key(1, 0, 5), key(2, 0, 9), fair) || !dial.Confusable(key(1, 0, 1), key(2, 0, 7), fair) || dial.Confusable(key(1, 0, 1), key(2, 0, 15), fair) {
		t.Error("Confusable")
	}
	if s, e := dial.Print([]api.Mark{m}); s != "1 98 0 #..#........\n" || e != api.OK {
		t.Error("Print", s, e)
	}
}

// TestExampleOfTheWhole is the first example of DOC.md.
func TestExampleOfTheWhole(t *testing.T) {
	l := []api.Key{key(1, 0, 7), key(2, 0, 56), key(3, 0, 448)}
	first, second := full(1000, 0, 0, 7), mark(1100, 0, 0, 0, 7)
	ids, _ := dial.Makers(l, first, api.Ink{})
	pairs, _ := dial.Pairs(l, first, api.Ink{})
	same(t, "Makers of the first mark", ids, []int{1})
	same(t, "Pairs of the first mark", pairs, nil)
	ids, _ = dial.Makers(l, second, api.Ink{})
	pairs, _ = dial.Pairs(l, second, api.Ink{})
	same(t, "Makers of the second mark", ids, []int{2, 3})
	same(t, "Pairs of the second mark", pairs, [][2]int{{2, 3}})
}
