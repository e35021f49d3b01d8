package house

import (
	"strconv"
	"strings"

	"patrol/api"
)

// The words with which the lines of rooms, doors and ways begin, and the one that stands between the hours of a door and its closures.
const (
	roomWord = "room"
	doorWord = "door"
	shutWord = "shut"
	wayWord  = "way"
)

const (
	mostLines = api.MaxRooms + api.MaxDoors + api.MaxWays // lines of a text
	mostWords = 2 + 2*api.MaxSpans                        // words of a line
)

// lineOf returns the line of some words.
func lineOf(words ...string) string { return strings.Join(words, " ") + "\n" }

// spanWord returns the word of a span.
func spanWord(x api.Span) string { return strconv.Itoa(x.Lo) + "-" + strconv.Itoa(x.Hi) }

// doorLine returns the line of a door.
func doorLine(d api.Door) string {
	words := []string{doorWord}
	for _, x := range d.Hours {
		words = append(words, spanWord(x))
	}
	words = append(words, shutWord)
	for _, x := range d.Shut {
		words = append(words, spanWord(x))
	}
	return lineOf(words...)
}

// wayLine returns the line of a way.
func wayLine(x api.Way) string {
	words := []string{wayWord}
	for _, n := range []int{x.A, x.B, x.Secs, x.Back, x.Door} {
		words = append(words, strconv.Itoa(n))
	}
	return lineOf(words...)
}

// Print returns the text of a house.
func Print(h api.House) (string, api.Errno) {
	if e := check(h, true); e != api.OK {
		return "", e
	}
	var s strings.Builder
	for _, x := range h.Rooms {
		s.WriteString(lineOf(roomWord, x.Name, strconv.Itoa(x.Floor)))
	}
	for _, d := range h.Doors {
		s.WriteString(doorLine(d))
	}
	for _, x := range h.Ways {
		s.WriteString(wayLine(x))
	}
	return s.String(), api.OK
}

// readNumbers returns the numbers of some words; false if one has none.
func readNumbers(words []string) ([]int, bool) {
	var l []int
	for _, word := range words {
		n, err := strconv.Atoi(word)
		if err != nil {
			return nil, false
		}
		l = append(l, n)
	}
	return l, true
}

// readDoor returns the door of the words behind the first one; false if they have none.
func readDoor(words []string) (api.Door, bool) {
	var d api.Door
	hours := true
	for _, word := range words {
		if hours && word == shutWord {
			hours = false
			continue
		}
		lo, hi, _ := strings.Cut(word, "-")
		n, ok := readNumbers([]string{lo, hi})
		switch {
		case !ok:
			return api.Door{}, false
		case hours:
			d.Hours = append(d.Hours, api.Span{Lo: n[0], Hi: n[1]})
		default:
			d.Shut = append(d.Shut, api.Span{Lo: n[0], Hi: n[1]})
		}
	}
	return d, true
}

// readLine adds what a line tells to a house; false if it tells nothing.
func readLine(h *api.House, line string) bool {
	words := strings.SplitN(strings.TrimSuffix(line, "\n"), " ", mostWords+1)
	switch {
	case words[0] == roomWord && len(words) == 3:
		n, ok := readNumbers(words[2:])
		if ok {
			h.Rooms = append(h.Rooms, api.Room{Name: words[1], Floor: n[0]})
		}
		return ok
	case words[0] == doorWord:
		d, ok := readDoor(words[1:])
		h.Doors = append(h.Doors, d)
		return ok
	case words[0] == wayWord && len(words) == 6:
		n, ok := readNumbers(words[1:])
		if ok {
			h.Ways = append(h.Ways, api.Way{A: n[0], B: n[1], Secs: n[2], Back: n[3], Door: n[4]})
		}
		return ok
	}
	return false
}

// Parse returns the valid house of a text; ErrForm if there is none.
func Parse(text string) (api.House, api.Errno) {
	var h api.House
	lines := 0
	for line := range strings.Lines(text) {
		lines++
		if lines > mostLines || !readLine(&h, line) {
			return api.House{}, api.ErrForm
		}
	}
	// Only what Print would write counts: not a number with a sign or a zero too many, another order of the lines, or a last line without its end.
	if again, e := Print(h); e != api.OK || again != text {
		return api.House{}, api.ErrForm
	}
	return h, api.OK
}
