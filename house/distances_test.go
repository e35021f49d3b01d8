package house_test

import (
	"slices"
	"testing"

	"patrol/api"
	"patrol/house"
)

// leastSecs tries walks with more and more ways.
func leastSecs(h api.House, a int) []int {
	secs := slices.Repeat([]int{-1}, len(h.Rooms))
	secs[a] = 0
	for range h.Rooms {
		for _, x := range waysOf(h) {
			if secs[x.from] >= 0 && (secs[x.to] < 0 || secs[x.from]+x.secs < secs[x.to]) {
				secs[x.to] = secs[x.from] + x.secs
			}
		}
	}
	return secs
}

func TestP3_12(t *testing.T) {
	c := chance(312)
	far, none := 0, 0
	for range 500 {
		h := c.house(10, 16, c.n(api.MaxTime), 3000)
		rows, e := house.Distances(h)
		if e != api.OK || len(rows) != len(h.Rooms) {
			t.Fatal("Distances", h, rows, e)
		}
		for a, row := range rows {
			want := leastSecs(h, a)
			same(t, "Distances", row, want)
			for b, secs := range want {
				n, e := house.Least(h, a, b)
				if secs < 0 && (n != 0 || e != api.ErrNone) || secs >= 0 && (n != secs || e != api.OK) {
					t.Error("Least", h, a, b, n, e, "not", secs)
				}
				if secs < 0 {
					none++
				} else if !slices.ContainsFunc(waysOf(h), func(x way) bool { return x.from == a && x.to == b && x.secs == secs }) {
					far++
				}
			}
		}
	}
	if far < 2000 || none < 2000 {
		t.Error("not an even test:", far, none)
	}
	h := fullHouse()
	for k := range h.Doors {
		h.Doors[k] = api.Door{}
	}
	if n, e := house.Least(h, 0, 12); n != 12*api.MaxSecs || e != api.OK {
		t.Error("Least in a house whose doors are always shut:", n, e)
	}
}

// tourTime looks second by second when one can have been in some rooms, in their order. Who has been in some of them is in another layer of the house.
func tourTime(h api.House, rooms []int, t int) int {
	var layers [][]int
	for range rooms {
		layers = append(layers, slices.Repeat([]int{api.Never}, len(h.Rooms)))
	}
	layers[0][rooms[0]] = t
	for now := t; now <= api.MaxTime; now++ {
		for k, times := range layers {
			if k > 0 && layers[k-1][rooms[k]] <= now {
				times[rooms[k]] = min(times[rooms[k]], now)
			}
			for _, x := range waysOf(h) {
				if times[x.from] <= now && now+x.secs < times[x.to] && now+x.secs <= api.MaxTime && canGo(h, x, now) {
					times[x.to] = now + x.secs
				}
			}
		}
	}
	return layers[len(rooms)-1][rooms[len(rooms)-1]]
}

func TestP3_13Tour(t *testing.T) {
	c := chance(313)
	done, never := 0, 0
	for range 300 {
		h, from, now := c.edge(true)
		rooms := []int{from}
		for range c.n(4) {
			if times, _ := house.Earliest(h, rooms[len(rooms)-1], now); c.n(4) > 0 {
				room := c.n(len(times))
				for k := 0; k < len(times) && times[room] == api.Never; k++ {
					room = (room + 1) % len(times)
				}
				rooms = append(rooms, room)
			} else {
				rooms = append(rooms, c.n(len(h.Rooms)))
			}
		}
		want := tourTime(h, rooms, now)
		if got, e := house.Tour(h, rooms, now); got != want || e != api.OK {
			t.Error("Tour", h, rooms, now, got, e, "not", want)
		}
		if want == api.Never {
			never++
		} else if len(rooms) > 2 {
			done++
		}
	}
	if done < 50 || never < 20 {
		t.Error("not an even test:", done, never)
	}
}

func TestP3_13TourEdges(t *testing.T) {
	h := exampleHouse()
	pacing := slices.Repeat([]int{0, 1}, api.MaxSteps/2)
	for _, x := range []struct {
		rooms []int
		t, at int
		e     api.Errno
	}{
		{[]int{1}, 5, 5, api.OK},
		{[]int{1, 1, 1}, 5, 5, api.OK},
		{[]int{0, 1, 0, 1}, 5, 185, api.OK},
		{[]int{0, 0, 1, 1}, api.MaxTime - 60, api.MaxTime, api.OK},
		{[]int{0, 1}, api.MaxTime - 59, api.Never, api.OK},
		{[]int{0, 1, 0, 1, 1}, api.MaxTime - 100, api.Never, api.OK},
		{[]int{0, 2, 2}, 64800, 108030, api.OK},
		{[]int{0, 2, 1, 0}, 0, api.Never, api.OK},
		{[]int{2, 0, 2}, 0, api.Never, api.OK},
		{pacing, 7, 7 + 60*(api.MaxSteps-1), api.OK},
		{nil, 0, 0, api.ErrArg},
		{[]int{}, -1, 0, api.ErrArg},
		{append(slices.Clone(pacing), 0), 0, 0, api.ErrLimit},
		{append(slices.Clone(pacing), 3), -1, 0, api.ErrLimit},
		{append(slices.Clone(pacing[1:]), 3), 0, 0, api.ErrArg},
		{[]int{2, 0, 3}, 0, 0, api.ErrArg},
		{[]int{2, -1, 0}, 0, 0, api.ErrArg},
	} {
		if at, e := house.Tour(h, x.rooms, x.t); at != x.at || e != x.e {
			t.Error("Tour", x, at, e)
		}
	}
}

func TestP3_13Nearest(t *testing.T) {
	c := chance(3131)
	found, none, alike := 0, 0, 0
	for k := range 1500 {
		h, from, now := c.edge(k%2 == 0)
		times, _ := house.Earliest(h, from, now)
		var rooms []int
		for range c.n(5) {
			rooms = append(rooms, c.n(len(h.Rooms)))
		}
		wantRoom, wantTime := 0, api.Never
		for room, at := range times {
			if slices.Contains(rooms, room) && at < wantTime {
				wantRoom, wantTime = room, at
			}
		}
		room, at, e := house.Nearest(h, from, now, rooms)
		if wantTime == api.Never {
			none++
			if room != 0 || at != 0 || e != api.ErrNone {
				t.Error("Nearest", h, from, now, rooms, room, at, e)
			}
			continue
		}
		found++
		if room != wantRoom || at != wantTime || e != api.OK {
			t.Error("Nearest", h, from, now, rooms, room, at, e, "not", wantRoom, wantTime)
		}
		for other := range times {
			if other != room && times[other] == at && slices.Contains(rooms, other) {
				alike++
			}
		}
	}
	if found < 300 || none < 300 || alike < 3 {
		t.Error("not an even test:", found, none, alike)
	}
}

func TestP3_13NearestEdges(t *testing.T) {
	h := api.House{Rooms: named("a", "b", "c", "d"), Ways: []api.Way{{A: 0, B: 2, Secs: 5, Door: -1}, {A: 0, B: 1, Secs: 5, Door: -1}, {A: 1, B: 3, Secs: 1, Door: -1}}}
	for _, x := range []struct {
		from, t  int
		rooms    []int
		room, at int
		e        api.Errno
	}{
		{0, 3, []int{2, 1}, 1, 8, api.OK}, {0, 3, []int{1, 2}, 1, 8, api.OK}, {0, 3, []int{3, 2, 2}, 2, 8, api.OK}, {0, 3, []int{3}, 3, 9, api.OK}, {0, 3, []int{2, 3, 0}, 0, 3, api.OK}, {2, 3, []int{0, 2}, 2, 3, api.OK},
		{0, 3, nil, 0, 0, api.ErrNone}, {0, 3, []int{}, 0, 0, api.ErrNone}, {2, 3, []int{0, 1, 3}, 0, 0, api.ErrNone}, {0, api.MaxTime, []int{1, 2, 3}, 0, 0, api.ErrNone}, {0, api.MaxTime - 5, []int{3, 2}, 2, api.MaxTime, api.OK},
		{0, 3, []int{0, 4}, 0, 0, api.ErrArg}, {0, 3, []int{-1, 0}, 0, 0, api.ErrArg}, {4, 3, nil, 0, 0, api.ErrArg}, {0, -1, nil, 0, 0, api.ErrArg},
		{0, 3, slices.Repeat([]int{3, 1}, 500), 1, 8, api.OK},
	} {
		if room, at, e := house.Nearest(h, x.from, x.t, x.rooms); room != x.room || at != x.at || e != x.e {
			t.Error("Nearest", x, room, at, e)
		}
	}
}
