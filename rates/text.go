package rates

import (
	"strconv"
	"strings"

	"patrol/api"
)

// lineWords is how many words a line has.
const lineWords = 5

// writer writes lines of numbers.
type writer struct{ strings.Builder }

// line writes a line.
func (w *writer) line(numbers ...int) {
	for k, n := range numbers {
		if k > 0 {
			w.WriteByte(' ')
		}
		w.WriteString(strconv.Itoa(n))
	}
	w.WriteByte('\n')
}

// Print returns the text of a list of postings.
func Print(l []api.Posting) (string, api.Errno) {
	if e, _ := CheckPostings(l); e != api.OK {
		return "", e
	}
	var w writer
	for _, x := range l {
		w.line(x.Night, x.No, x.From, x.To, x.Amount)
	}
	return w.String(), api.OK
}

// readLine returns the posting of a line; false if it has none.
func readLine(line string) (api.Posting, bool) {
	words := strings.SplitN(strings.TrimSuffix(line, "\n"), " ", lineWords+1)
	if len(words) != lineWords {
		return api.Posting{}, false
	}
	var n [lineWords]int
	for k, word := range words {
		v, err := strconv.Atoi(word)
		if err != nil {
			return api.Posting{}, false
		}
		n[k] = v
	}
	return api.Posting{Night: n[0], No: n[1], From: n[2], To: n[3], Amount: n[4]}, true
}

// Parse returns the postings of a text.
func Parse(text string) ([]api.Posting, api.Errno) {
	var l []api.Posting
	for line := range strings.Lines(text) {
		x, ok := readLine(line)
		if !ok || len(l) == api.MaxPostings {
			return nil, api.ErrForm
		}
		l = append(l, x)
	}
	// Only what Print would write counts: not a number with a sign or a zero too many, or a last line without its end.
	if again, e := Print(l); e != api.OK || again != text {
		return nil, api.ErrForm
	}
	return l, api.OK
}
