package house_test

import (
	"testing"

	"patrol/api"
	"patrol/house"
)

// isWall is the definition of a wall; Enter is looked for until the time last, behind which no door opens.
func isWall(h api.House, a, ta, b, tb int, l []int, last int) bool {
	if len(l) != len(h.Rooms) {
		return false
	}
	for _, at := range l {
		if at < 0 || at > api.Never {
			return false
		}
	}
	if l[a] > ta || l[b] <= tb {
		return false
	}
	for _, x := range waysOf(h) {
		if l[x.from] <= api.MaxTime && enterTime(h, x, l[x.from], last) < l[x.to] {
			return false
		}
	}
	return true
}

func TestP3_11Wall(t *testing.T) {
	c := chance(311)
	walls, none := 0, 0
	for range 500 {
		h, a, ta := c.edge(true)
		times := firstTimes(h, a, ta, api.MaxTime)
		b := c.n(len(h.Rooms))
		tb := min(api.MaxTime, max(0, c.pick(times[b], times[b]-1, times[b]-1, ta+c.n(1000), c.n(api.MaxTime))))
		l, e := house.Wall(h, a, ta, b, tb)
		if times[b] <= tb {
			none++
			if e != api.ErrNone || len(l) > 0 {
				t.Error("Wall", h, a, ta, b, tb, l, e)
			}
			continue
		}
		walls++
		if e != api.OK || !isWall(h, a, ta, b, tb, l, api.MaxTime) {
			t.Error("Wall", h, a, ta, b, tb, l, e)
		}
		if e := house.CheckWall(h, a, ta, b, tb, l); e != api.OK {
			t.Error("CheckWall", h, a, ta, b, tb, l, e)
		}
	}
	if walls < 100 || none < 100 {
		t.Error("not an even test:", walls, none)
	}
	// One who is late for the own room.
	if l, e := house.Wall(exampleHouse(), 1, 100, 1, 99); e != api.OK || house.CheckWall(exampleHouse(), 1, 100, 1, 99, l) != api.OK {
		t.Error("Wall", l, e)
	}
	if l, e := house.Wall(exampleHouse(), 1, 100, 1, 100); e != api.ErrNone || len(l) > 0 {
		t.Error("Wall", l, e)
	}
}

// TestP3_11Check changes walls, so that some of them remain walls.
func TestP3_11Check(t *testing.T) {
	c := chance(3111)
	walls, none := 0, 0
	for range 2500 {
		h, a, ta := c.edge(true)
		l, _ := house.Earliest(h, a, ta)
		b := c.n(len(h.Rooms))
		tb := min(api.MaxTime, max(0, l[b]-c.pick(1, 1, 1, 0, c.n(500))))
		for range c.n(4) {
			k := c.n(len(l))
			l[k] = max(-1, min(api.Never+1, c.pick(l[k]-1, l[k]+1, l[k]-c.n(300), l[k]+c.n(300), ta, api.Never, c.pick(0, api.MaxTime, -1, api.Never+1))))
		}
		for k, at := range l {
			// What is far before the last time would take the definition long.
			if at >= 0 && at < ta-200 {
				l[k] = ta - 200
			}
		}
		want := isWall(h, a, ta, b, tb, l, api.MaxTime)
		if e := house.CheckWall(h, a, ta, b, tb, l); want != (e == api.OK) || !want && e != api.ErrProof {
			t.Error("CheckWall", h, a, ta, b, tb, l, e)
		}
		if want {
			walls++
			if is, _ := house.Can(h, a, ta, b, tb); is {
				t.Error("Can", h, a, ta, b, tb, l)
			}
		} else {
			none++
		}
	}
	if walls < 300 || none < 300 {
		t.Error("not an even test:", walls, none)
	}
}

func TestP3_11Edges(t *testing.T) {
	h := exampleHouse()
	const never = api.Never
	for _, x := range []struct {
		a, ta, b, tb int
		l            []int
		e            api.Errno
	}{
		{0, 0, 2, 21629, []int{0, 60, 21630}, api.OK},
		{0, 0, 2, 21629, []int{0, 0, 21630}, api.OK},
		{0, 5, 2, 21629, []int{0, 0, 21630}, api.OK},
		{0, 0, 2, 5, []int{0, 60, 6}, api.OK},
		{0, 0, 2, 5, []int{0, 60, 5}, api.ErrProof},
		{0, 0, 2, 21630, []int{0, 60, 21630}, api.ErrProof},
		{0, 0, 2, 21629, []int{1, 60, 21630}, api.ErrProof},
		{0, 0, 2, 21629, []int{0, 61, 21630}, api.ErrProof},
		{0, 0, 2, 21629, []int{0, 60, 21631}, api.ErrProof},
		{0, 0, 2, 21629, []int{0, never, 21630}, api.ErrProof},
		{0, 0, 2, 21629, []int{-1, 60, 21630}, api.ErrProof},
		{0, 0, 2, 21629, []int{0, -1, 21630}, api.ErrProof},
		{0, 0, 2, 21629, []int{minInt, minInt, 21630}, api.ErrProof},
		{0, 0, 2, 21629, []int{0, 60, maxInt}, api.ErrProof},
		{0, 0, 2, 21629, []int{0, 60, never}, api.ErrProof},
		{0, 0, 2, 21629, nil, api.ErrProof},
		{0, 0, 2, 21629, []int{0, 60}, api.ErrProof},
		{0, 0, 2, 21629, []int{0, 60, 21630, 0}, api.ErrProof},
		{2, 0, 0, api.MaxTime, []int{never, never, 0}, api.OK},
		{2, 0, 0, api.MaxTime, []int{never, never + 1, 0}, api.ErrProof},
		{2, 0, 0, api.MaxTime, []int{api.MaxTime, never, 0}, api.ErrProof},
		{2, 0, 0, api.MaxTime, []int{never, api.MaxTime - 60, 0}, api.ErrProof},
		{2, 0, 0, api.MaxTime, []int{never, api.MaxTime - 59, 0}, api.OK}, // none can go back from the mill then
		{2, 0, 0, api.MaxTime, []int{never, 0, 0}, api.ErrProof},
		{2, 0, 0, 70, []int{71, 11, 0}, api.OK},
		{2, 0, 0, 70, []int{71, 10, 0}, api.ErrProof}, // the way back from the mill leads to the gate at 70
		{1, 100, 1, 99, []int{160, 100, 100}, api.OK},
		{1, 100, 1, 99, []int{0, 60, 0}, api.ErrProof},
		{1, 100, 1, 100, []int{160, 100, 100}, api.ErrProof},
	} {
		if e := house.CheckWall(h, x.a, x.ta, x.b, x.tb, x.l); e != x.e {
			t.Error("CheckWall", x, e)
		}
	}
	h.Doors[0].Hours = nil
	for _, x := range []struct {
		l []int
		e api.Errno
	}{
		{[]int{never, api.MaxTime - 59, 0}, api.OK}, {[]int{never, api.MaxTime - 60, 0}, api.ErrProof}, {[]int{api.MaxTime, api.MaxTime - 60, 0}, api.ErrProof}, {[]int{never, never, 0}, api.OK},
	} {
		if e := house.CheckWall(h, 2, 0, 0, api.MaxTime, x.l); e != x.e {
			t.Error("CheckWall", x, e)
		}
	}
}
