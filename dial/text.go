package dial

import (
	"strconv"
	"strings"

	"patrol/api"
)

// pinText returns the twelve characters that tell what a mark says of the pins.
func pinText(m api.Mark) string {
	var s strings.Builder
	for pin := range api.Pins {
		switch {
		case hasPin(m.Seen, pin):
			s.WriteByte('#')
		case hasPin(m.Blank, pin):
			s.WriteByte('.')
		default:
			s.WriteByte('?')
		}
	}
	return s.String()
}

// lineOf returns the line of a mark.
func lineOf(m api.Mark) string {
	fields := []string{strconv.Itoa(m.Track), strconv.Itoa(m.At.From), strconv.Itoa(m.At.Len), pinText(m)}
	return strings.Join(fields, " ") + "\n"
}

// Print returns the text of a dial.
func Print(ms []api.Mark) (string, api.Errno) {
	if e := checkMarks(ms); e != api.OK {
		return "", e
	}
	var s strings.Builder
	for _, m := range ms {
		s.WriteString(lineOf(m))
	}
	return s.String(), api.OK
}

// readLine returns a valid mark whose line may be this one; false if there is none.
func readLine(line string) (api.Mark, bool) {
	fields := strings.SplitN(strings.TrimSuffix(line, "\n"), " ", 4)
	if len(fields) != 4 || len(fields[3]) != api.Pins {
		return api.Mark{}, false
	}
	var n [3]int
	for k := range n {
		v, err := strconv.Atoi(fields[k])
		if err != nil {
			return api.Mark{}, false
		}
		n[k] = v
	}
	m := api.Mark{At: api.Arc{From: n[1], Len: n[2]}, Track: n[0]}
	for pin := range api.Pins {
		switch fields[3][pin] {
		case '#':
			m.Seen |= 1 << pin
		case '.':
			m.Blank |= 1 << pin
		}
	}
	return m, CheckMark(m) == api.OK
}

// Parse returns the dial of a text.
func Parse(text string) ([]api.Mark, api.Errno) {
	var ms []api.Mark
	for line := range strings.Lines(text) {
		m, ok := readLine(line)
		// Only the line that Print would write counts: not one with a sign, another character, or no end.
		if !ok || len(ms) == api.MaxMarks || lineOf(m) != line {
			return nil, api.ErrForm
		}
		ms = append(ms, m)
	}
	return ms, api.OK
}
