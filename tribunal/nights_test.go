package tribunal_test

import (
	"slices"
	"testing"

	"patrol/api"
	"patrol/clock"
	"patrol/dial"
	"patrol/house"
	"patrol/order"
	"patrol/tribunal"
)

// noon is the time from which on watchmen walk.
const noon = 30000

// around returns a span that has a number.
func (c *chance) around(n, by int) api.Span { return span(max(0, n-c.n(by+1)), n+c.n(by+1)) }

// house returns a small house whose doors are shut now and then.
func (c *chance) house() api.House {
	var h api.House
	for k := range c.from(2, 4) {
		h.Rooms = append(h.Rooms, api.Room{Name: string(rune('a' + k))})
	}
	lo := noon + c.from(60, 120)
	h.Doors = []api.Door{{Hours: []api.Span{span(0, api.DaySecs-1)}, Shut: []api.Span{span(lo, lo+c.n(20))}}}
	for k := range h.Rooms {
		h.Ways = append(h.Ways, api.Way{A: k, B: (k + 1) % len(h.Rooms), Secs: c.from(1, 9), Back: c.pick(0, c.from(1, 9)), Door: c.pick(-1, 0)})
	}
	return h
}

// run returns a run from noon on, and a session that it plays.
func (c *chance) run() (api.Run, api.Session) {
	rate := span(c.pick(api.Million, 990000), c.pick(api.Million, 1010000))
	x := api.Run{Start: noon, Micro: c.n(5 * api.Million)}
	micro, end := x.Micro, noon
	s := api.Session{ID: 1, Rate: rate}
	leg := func(secs, rate int) {
		x.Legs = append(x.Legs, api.Leg{Secs: secs, Rate: rate})
		micro, end = micro+secs*rate, end+secs
	}
	leg(c.from(60, 120), c.from(rate.Lo, rate.Hi))
	if c.n(3) == 0 {
		secs := c.from(1, 9)
		s.Stops = []api.Stop{{At: micro / api.Million, Secs: c.around(secs, 2)}}
		s.Stops[0].Secs.Lo = max(s.Stops[0].Secs.Lo, 1)
		leg(secs, 0)
	}
	leg(c.from(100, 200), c.from(rate.Lo, rate.Hi))
	s.In, s.Out, s.Zero, s.End = c.around(x.Start, 2), c.around(end, 3), c.around(x.Micro/api.Million, 1), c.around(micro/api.Million, 3)
	return x, s
}

// visit is a visit of a true watchman.
type visit struct{ station, time, pos int }

// night is a true night: what is known of it, and what truly happened.
type night struct {
	setting api.Setting
	dial    api.Dial
	looks   [2][]api.Mark
	book    api.Custody
	visits  []visit
	moves   map[int][]api.Entry // what truly happened to each key, at the time At.Lo, in order
}

// walk lets a man walk through the house while the run covers the time.
func (c *chance) walk(x *night, run api.Run) {
	room, since := x.dial.Start, x.dial.Since
	for range c.n(6) {
		station := c.n(len(x.setting.Stations))
		to := x.setting.Stations[station].Room
		times, _ := house.Earliest(x.setting.House, room, since)
		at := times[to] + c.pick(0, 0, c.n(10), c.n(30))
		pos, e := clock.Needle(run, at)
		if e != api.OK {
			continue // too late, or never
		}
		x.visits = append(x.visits, visit{station, at, pos})
		room, since = to, at
	}
}

// some returns a subset of a set of pins that has not more than most pins.
func (c *chance) some(set, most int) int {
	some := 0
	for range c.n(most + 1) {
		some |= 1 << c.n(api.Pins)
	}
	return some & set
}

// strikes lets each visit leave its mark, or two of them one mark, which two readers see more or less well.
func (c *chance) strikes(x *night) {
	l := x.visits
	ink := x.setting.Ink
	for len(l) > 0 {
		first, last := x.setting.Keys[l[0].station], x.setting.Keys[l[0].station]
		n := 1
		if len(l) > 1 && l[1].pos-l[0].pos <= api.Double && l[0].station != l[1].station && c.n(2) == 0 {
			n, last = 2, x.setting.Keys[l[1].station]
		}
		set := first.Pattern | last.Pattern
		blow := api.Blow{Miss: c.some(set, ink.Faint), Dirt: c.some(api.AllPins&^set, ink.Stray), Shift: c.from(-ink.Slip, ink.Slip)}
		m, e := dial.Strike(first, l[0].pos, blow, ink)
		if n == 2 {
			m, e = dial.Twice(first, last, l[0].pos, l[1].pos-l[0].pos, blow, ink)
		}
		if e != api.OK {
			panic("no strike")
		}
		for reader := range x.looks {
			seen, _ := dial.Blur(m, c.pick(0, 0, 1, 3), c.some(api.AllPins, c.pick(0, 2, 6, 12)))
			x.looks[reader] = append(x.looks[reader], seen)
		}
		l = l[n:]
	}
}

// order returns an order that the watchman often fulfilled.
func (c *chance) order(x *night) api.Order {
	source := "p"
	for k, v := range x.visits {
		if name := x.setting.Stations[v.station].Name; k == 0 {
			source = name
		} else {
			source += one(c, " then ", " then ", " then after 0 to 30 ", " then after 2 to 9 ") + name
		}
	}
	return sourced(source + one(c, "", "", " or q", " or q then p"))
}

// pass lets keys truly pass between the board and two men; the book has most of it, at times that are known more or less well.
func (c *chance) pass(x *night) {
	x.book = api.Custody{People: []api.Person{{ID: 3, Duty: []api.Span{span(0, noon+100)}}, {ID: 9, Duty: []api.Span{span(noon, noon+900)}}}, Gaps: c.pick(0, 1, 1)}
	x.moves = map[int][]api.Entry{}
	for _, key := range x.setting.Keys {
		x.book.Keys = append(x.book.Keys, key.ID)
		place, at, gaps := api.Board, noon+c.n(80), x.book.Gaps
		for range c.n(5) {
			m := api.Entry{ID: len(x.book.Entries) + 1, Key: key.ID, Kind: api.CuPass, From: place, To: c.pick(3, 9, api.Board), At: span(at, at)}
			if place != api.Board && c.n(4) == 0 {
				m.Kind, m.To = api.CuCopy, 0
			} else if m.To == place {
				continue
			} else {
				place = m.To
			}
			x.moves[key.ID] = append(x.moves[key.ID], m)
			at += c.n(60)
			if m.Kind == api.CuPass && gaps > 0 && c.n(3) == 0 {
				gaps-- // nobody recorded it
				continue
			}
			m.At = c.around(m.At.Lo, 10)
			x.book.Entries = append(x.book.Entries, m)
		}
	}
	x.book.Entries = shuffled(c, x.book.Entries)
}

// night returns a true night.
func (c *chance) night() night {
	x := night{setting: api.Setting{House: c.house(), Ink: api.Ink{Faint: c.n(2), Stray: c.n(2), Slip: c.n(4)}}}
	for k := range c.from(2, 4) {
		x.setting.Keys = append(x.setting.Keys, api.Key{ID: 1 + k, Pattern: 7 << (3 * k)})
		x.setting.Stations = append(x.setting.Stations, api.Station{Name: string(rune('p' + k)), Key: 1 + k, Room: c.n(len(x.setting.House.Rooms))})
	}
	run, s := c.run()
	if e := clock.Plays(s, run); e != api.OK {
		panic("not a true night")
	}
	x.dial = api.Dial{No: 7, Night: 3, Round: 1, Crew: []int{9}, Session: s, Start: c.n(len(x.setting.House.Rooms)), Since: c.from(noon-50, noon+80)}
	c.walk(&x, run)
	c.strikes(&x)
	x.dial.Order = c.order(&x)
	c.pass(&x)
	return x
}

// holds returns who truly had a key in hand at a time, and was on duty.
func (x night) holds(key, t int) []int {
	place := api.Board
	var copied []int
	for _, m := range x.moves[key] {
		if m.At.Lo > t {
			break
		}
		if m.Kind == api.CuCopy {
			copied = append(copied, m.From)
		} else {
			place = m.To
		}
	}
	var men []int
	for _, man := range x.book.People {
		if has(man.Duty[0], t) && (man.ID == place || slices.Contains(copied, man.ID)) {
			men = append(men, man.ID)
		}
	}
	return men
}

// fulfilled reports whether the watchman truly fulfilled his order.
func (x night) fulfilled() bool {
	var l []api.Visit
	for _, v := range x.visits {
		l = append(l, api.Visit{Name: x.setting.Stations[v.station].Name, Time: v.time})
	}
	is, _ := order.Matches(x.dial.Order, l)
	return is
}

// tell lets offices learn of the night, and returns a court in which they all know of it.
func (x night) tell(t *testing.T, c *chance) *tribunal.Court {
	t.Helper()
	court, e := tribunal.New(3)
	if e != api.OK {
		t.Fatal("New", e)
	}
	for _, a := range []api.Act{
		write(1, settingFact(0, 0, 1, x.setting)), write(1, dialFact(0, 0, 2, x.dial)), write(3, custodyFact(0, 0, 2, x.book)), send(1, 2), send(1, 3), write(2, lookFact(0, 0, 3, 7, 1, x.looks[0]...)), write(3, lookFact(0, 0, 4, 7, 2, x.looks[1]...)),
		send(2, 1), send(3, 2), double(c.n(4)), send(2, 3), send(3, 1),
	} {
		if _, e := court.Do(a); e != api.OK {
			t.Fatal("Do", a, e)
		}
	}
	for len(court.Post()) > 0 {
		if _, e := court.Do(deliver(c.n(len(court.Post())))); e != api.OK {
			t.Fatal("deliver", e)
		}
	}
	return court
}

// ask asks all offices, whose answers are the same, and accepted by all.
func (x night) ask(t *testing.T, court *tribunal.Court, q api.Question) api.Reply {
	t.Helper()
	rs, e := court.Ask(q)
	if e != api.OK || len(rs) != 3 {
		t.Fatal("Ask", q, e)
	}
	for k, r := range rs {
		l, _ := court.Facts(3 - k)
		accepts(t, l, q, r, true)
		same(t, "another office", r, api.OK, rs[0])
	}
	return rs[0]
}

// TestP1_T9 lets true watchmen walk: nobody is accused, whatever is known of the night.
func TestP1_T9(t *testing.T) {
	c := chance(9)
	visits, judged, told, certified := 0, 0, 0, 0
	for range 100 {
		x := c.night()
		court := x.tell(t, &c)
		for _, known := range []int{3, 4} {
			r := x.ask(t, court, verdict(known, 7))
			if r.Errno != api.OK || r.Judged.State != api.DiJudged {
				continue
			}
			judged++
			right := x.fulfilled()
			if r.Judged.Kind == api.VeVoid || r.Judged.Kind == api.VeFailed && right || r.Judged.Kind == api.VeCertified && !right {
				t.Error("the verdict", x, r)
			}
			if r.Judged.Kind == api.VeCertified {
				certified++
			}
			for _, v := range x.visits {
				visits++
				place, room := x.setting.Stations[v.station], x.setting.House.Rooms[x.setting.Stations[v.station].Room].Name
				if r := x.ask(t, court, missed(known, 7, place.Name)); r.Errno != api.OK || r.Yes {
					t.Error("a station that is told missed", x, r)
				}
				if r := x.ask(t, court, when(known, 7, place.Name)); r.Errno != api.OK || !has(r.Span, v.time) {
					t.Error("the time of a visit", x, r)
				}
				if r := x.ask(t, court, placed(known, 7, room, v.time, v.time)); r.Errno != api.OK || !r.Yes {
					t.Error("the place of a visit", x, r)
				}
				r := x.ask(t, court, who(known, 7, place.Name))
				for _, man := range x.holds(place.Key, v.time) {
					told++
					if r.Errno != api.OK || !slices.Contains(r.List, man) {
						t.Error("a man who had the key", x, r, man)
					}
				}
			}
		}
	}
	if visits < 200 || judged < 80 || told < 60 || certified < 15 {
		t.Error("not an even test:", visits, judged, told, certified)
	}
}
