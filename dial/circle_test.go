package dial_test

import (
	"math/big"
	"testing"

	"patrol/api"
	"patrol/dial"
)

// ends are integers near multiples of the circle, and near the ends of int.
var ends = []int{minInt, minInt + 1, minInt + api.Ring, -api.Ring - 1, -api.Ring, -api.Ring + 1, -api.Ring / 2, -1, 0, 1, 10, api.Ring/2 - 1, api.Ring / 2, api.Ring/2 + 1, api.Ring - 10, api.Ring - 1, api.Ring, api.Ring + 1, 5*api.Ring + 7, maxInt - api.Ring, maxInt - 1, maxInt}

// mod returns the angle of b - a, exactly.
func mod(b, a int) int {
	d := new(big.Int).Sub(big.NewInt(int64(b)), big.NewInt(int64(a)))
	return int(d.Mod(d, big.NewInt(api.Ring)).Int64())
}

func TestP1_1(t *testing.T) {
	for _, a := range ends {
		if got, want := dial.Angle(a), mod(a, 0); got != want {
			t.Errorf("Angle(%d) = %d, not %d", a, got, want)
		}
		for _, b := range ends {
			ahead, back := mod(b, a), mod(a, b)
			if got := dial.Ahead(a, b); got != ahead {
				t.Errorf("Ahead(%d, %d) = %d, not %d", a, b, got, ahead)
			}
			if got := dial.Apart(a, b); got != min(ahead, back) {
				t.Errorf("Apart(%d, %d) = %d, not %d", a, b, got, min(ahead, back))
			}
		}
	}
}

func TestP1_2ValidArc(t *testing.T) {
	good := arcs(0, 0, 0, api.Ring-1, api.Ring-1, 0, api.Ring-1, api.Ring-2, 0, api.Ring-2, 1, api.Ring-2, 7, 100)
	for _, x := range good {
		if !dial.ValidArc(x) {
			t.Error("not valid:", x)
		}
	}
	for _, x := range badArcs() {
		if dial.ValidArc(x) {
			t.Error("valid:", x)
		}
		for _, a := range ends {
			if dial.Has(x, a) {
				t.Error("an arc that is not valid has", x, a)
			}
		}
	}
}

func TestP1_2Has(t *testing.T) {
	c := chance(2)
	for n := range 300 {
		x := c.arc()
		s := setOf([]api.Arc{x})
		near := []int{x.From - 1, x.From, x.From + x.Len, x.From + x.Len + 1, c.n(api.Ring)}
		for _, a := range append(near, ends...) {
			if got := dial.Has(x, a); got != s[mod(a, 0)] {
				t.Error("Has:", n, x, a, got)
			}
		}
	}
}

func TestP1_2Turn(t *testing.T) {
	c := chance(3)
	for range 200 {
		x := c.arc()
		for _, by := range append([]int{c.n(api.Ring), -c.n(api.Ring)}, ends...) {
			want := api.Arc{From: (x.From + mod(by, 0)) % api.Ring, Len: x.Len}
			if x.Len == api.Ring-1 {
				want.From = 0
			}
			if got, e := dial.Turn(x, by); got != want || e != api.OK {
				t.Error("Turn:", x, by, got, e)
			}
		}
	}
	for _, by := range ends {
		whole := api.Arc{Len: api.Ring - 1}
		if got, e := dial.Turn(whole, by); got != whole || e != api.OK {
			t.Error("Turn of the whole circle:", by, got, e)
		}
		for _, x := range badArcs() {
			if got, e := dial.Turn(x, by); got != (api.Arc{}) || e != api.ErrArg {
				t.Error("Turn of an arc that is not valid:", x, by, got, e)
			}
		}
	}
}
