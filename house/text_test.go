package house_test

import (
	"strings"
	"testing"

	"patrol/api"
	"patrol/house"
)

const exampleText = "room gate 0\nroom mill 0\nroom loft 1\ndoor 21600-64800 shut\nway 0 1 60 60 -1\nway 1 2 30 0 0\n"

// textual checks that a house has a text.
func textual(t *testing.T, h api.House, want string) {
	t.Helper()
	text, e := house.Print(h)
	if text != want || e != api.OK {
		t.Errorf("Print: %q %d, not %q", text, e, want)
	}
	got, e := house.Parse(want)
	sameHouse(t, "Parse", got, h)
	if e != api.OK {
		t.Errorf("Parse: %q: %d", want, e)
	}
}

func TestP3_15(t *testing.T) {
	textual(t, exampleHouse(), exampleText)
	textual(t, api.House{Rooms: []api.Room{{Name: "0a", Floor: -60}}}, "room 0a -60\n")
	textual(t, api.House{Rooms: []api.Room{{Name: "abcdefghijklmnop", Floor: 60}}, Doors: []api.Door{{}, {Hours: spans(span(0, 0), span(5, 86399)), Shut: spans(span(0, 0), span(7, api.MaxTime))}, {Shut: spans(span(1, 2))}}}, "room abcdefghijklmnop 60\ndoor shut\ndoor 0-0 5-86399 shut 0-0 7-1073741823\ndoor shut 1-2\n")
	textual(t, api.House{Rooms: []api.Room{{Name: "room"}, {Name: "shut", Floor: -1}}, Ways: []api.Way{{A: 1, B: 0, Secs: 3600, Back: 3600, Door: -1}}}, "room room 0\nroom shut -1\nway 1 0 3600 3600 -1\n")
	full, e := house.Print(fullHouse())
	textual(t, fullHouse(), full)
	if e != api.OK || strings.Count(full, "\n") != api.MaxRooms+api.MaxDoors+api.MaxWays {
		t.Error("Print of the full house:", full, e)
	}
	c := chance(315)
	for range 300 {
		h := c.house(api.MaxRooms, api.MaxWays, c.n(api.MaxTime), 5000)
		text, e := house.Print(h)
		got, f := house.Parse(text)
		sameHouse(t, "Parse of Print", got, h)
		if e != api.OK || f != api.OK || strings.Count(text, "\n") != len(h.Rooms)+len(h.Doors)+len(h.Ways) {
			t.Error("Print", text, e, f)
		}
	}
}

func TestP3_15Malformed(t *testing.T) {
	const start = "room a 0\nroom b 0\n"
	for _, text := range []string{
		"", "\n", " ", "\x00", "room", "room \n", "room\n", "room a\n", "room a \n", "room a 0", "room a 0 \n", " room a 0\n", "room  a 0\n", "room a  0\n", "room a 0 0\n", "room a 0\r\n", "room a 0\n\n", "\nroom a 0\n", "room a 0\n ", "room\ta 0\n", "Room a 0\n", "rooms a 0\n",
		"room a +0\n", "room a -0\n", "room a 00\n", "room a 01\n", "room a 61\n", "room a -61\n", "room a --1\n", "room a 1_0\n", "room a 0x1\n", "room a x\n", "room a 1.0\n", "room a 99999999999999999999\n", "room a 18446744073709551616\n", "room A 0\n", "room  0\n", "room a-b 0\n", "room abcdefghijklmnopq 0\n", "room \u00e9 0\n", "room a 0\nroom a 1\n", "\ufeffroom a 0\n",
		"door shut\n", "way 0 1 1 1 -1\n", "shut\n", "door shut\n" + start, "way 0 1 1 1 -1\n" + start, start + "way 0 1 1 1 -1\nroom c 0\n", start + "way 0 1 1 1 -1\ndoor shut\n", "room a 0\ndoor shut\nroom b 0\n",
		start + "door\n", start + "door \n", start + "door shut \n", start + "door  shut\n", start + "door shut shut\n", start + "door 1-2\n", start + "door 1-2 shut 3-4 shut\n", start + "door 1-2shut\n", start + "door shut1-2\n", start + "door 2-1 shut\n", start + "door 1 shut\n", start + "door 1- shut\n", start + "door -1 shut\n", start + "door - shut\n", start + "door -1-2 shut\n", start + "door 1--2 shut\n", start + "door 1-2-3 shut\n", start + "door 01-2 shut\n", start + "door 1-+2 shut\n", start + "door +1-2 shut\n", start + "door -0-2 shut\n", start + "door 1 - 2 shut\n", start + "door 1 -2 shut\n", start + "door 1-86400 shut\n", start + "door 1-2 3-4 shut\n", start + "door 5-6 1-2 shut\n", start + "door shut 1-1073741824\n", start + "door shut 1-2 2-3\n", start + "door 1-2 SHUT\n", start + "doors 1-2 shut\n", start + "door 1-2 , shut\n", start + "door a-b shut\n",
		start + "door 0-0 2-2 4-4 6-6 8-8 10-10 12-12 14-14 16-16 shut\n", start + "door shut 0-0 2-2 4-4 6-6 8-8 10-10 12-12 14-14 16-16\n", start + "door shut 0-0 2-2 4-4 6-6 8-8 10-10 12-12 14-14" + strings.Repeat(" 16-16", 50) + "\n", start + "door 0-0 2-2 4-4 6-6 8-8 10-10 12-12 14-14 shut 0-0 2-2 4-4 6-6 8-8 10-10 12-12 14-14 \n", start + "door" + strings.Repeat(" ", 50) + "shut\n",
		start + "way\n", start + "way 0 1 1 1\n", start + "way 0 1 1 1 -1 0\n", start + "way 0 1 1 1 -1 \n", start + "way 0 1 1 1  -1\n", start + "way 0 1 1 1 0\n", start + "way 0 1 1 1 -2\n", start + "way 0 2 1 1 -1\n", start + "way 0 0 1 1 -1\n", start + "way 0 1 0 1 -1\n", start + "way 0 1 3601 1 -1\n", start + "way 0 1 1 3601 -1\n", start + "way 0 1 1 -1 -1\n", start + "way -0 1 1 1 -1\n", start + "way 00 1 1 1 -1\n", start + "way 0 +1 1 1 -1\n", start + "way 0 1 1 01 -1\n", start + "way 0 1 1 1 -01\n", start + "way 0 1 1 1 --1\n", start + "way 0 1 1 1 -1", start + "ways 0 1 1 1 -1\n", start + "way a b 1 1 -1\n",
		start + strings.Repeat("way 0 1 1 1 -1\n", api.MaxWays+1), start + strings.Repeat("door shut\n", api.MaxDoors+1), start + strings.Repeat("way 0 1 1 1 -1\n", 10000), strings.Repeat("room a 0\n", 10000),
	} {
		if h, e := house.Parse(text); e != api.ErrForm || !isSame(h, api.House{}) {
			t.Errorf("Parse: %q: %v %d", text, h, e)
		}
	}
	if _, e := house.Parse(start + strings.Repeat("door shut\n", api.MaxDoors) + strings.Repeat("way 0 1 1 1 -1\n", api.MaxWays)); e != api.OK {
		t.Error("Parse", e)
	}
}

// TestP3_15Edits changes one byte of a text; what Parse takes is what Print would write.
func TestP3_15Edits(t *testing.T) {
	h := exampleHouse()
	h.Doors = append(h.Doors, api.Door{Hours: spans(span(0, 10), span(12, 20)), Shut: spans(span(5, 6), span(10, 300))})
	taken := 0
	for _, text := range []string{exampleText, func() string { s, _ := house.Print(h); return s }()} {
		for k := range len(text) + 1 {
			for _, x := range []string{"", "0", "1", "9", " ", "\n", "-", "+", "a", "s", "\xff"} {
				for _, s := range []string{text[:k] + x + text[k:], text[:k] + x + text[min(k+1, len(text)):]} {
					got, e := house.Parse(s)
					again, _ := house.Print(got)
					if e == api.OK && again != s || e != api.OK && (e != api.ErrForm || !isSame(got, api.House{})) {
						t.Errorf("Parse: %q: %v %d", s, got, e)
					}
					if e == api.OK && s != text {
						taken++
					}
				}
			}
		}
	}
	if taken < 100 {
		t.Error("not an even test:", taken)
	}
}
