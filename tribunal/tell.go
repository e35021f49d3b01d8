package tribunal

import (
	"slices"
	"strconv"
	"strings"

	"patrol/api"
	"patrol/rates"
)

// teller writes the lines of a reply.
type teller struct{ strings.Builder }

// line writes a line of a word, and of further ones.
func (t *teller) line(word string, more ...string) {
	t.WriteString(word)
	for _, x := range more {
		t.WriteString(" " + x)
	}
	t.WriteString("\n")
}

// numbers writes a line of a word, and of some numbers.
func (t *teller) numbers(word string, l ...int) {
	var more []string
	for _, n := range l {
		more = append(more, strconv.Itoa(n))
	}
	t.line(word, more...)
}

// plain writes what is told without lists.
func (t *teller) plain(r api.Reply) {
	if r.Yes {
		t.line("yes")
	}
	if j := r.Judged; j.No != 0 {
		t.numbers("judged", j.No, j.Night, j.Round, j.State, j.Kind, int(j.Errno))
	}
	if r.Span != (api.Span{}) {
		t.line("span", tellSpan(r.Span))
	}
	if r.Pence != 0 {
		t.numbers("pence", r.Pence)
	}
}

// reading writes the line of a reading.
func (t *teller) reading(r api.Reading) {
	var words []string
	for k, x := range r.Reads {
		words = append(words, strconv.Itoa(x.Mark)+":"+strconv.Itoa(x.Station)+"@"+strconv.Itoa(r.Times[k]))
	}
	t.line("reading", words...)
}

// lists writes the lists, with the text of the postings.
func (t *teller) lists(r api.Reply, postings string) {
	if len(r.List) > 0 {
		t.numbers("list", r.List...)
	}
	for line := range strings.Lines(postings) {
		t.WriteString("posting " + line)
	}
	for _, x := range r.Readings {
		t.reading(x)
	}
	for _, p := range r.Proofs {
		t.numbers("proof", len(p))
	}
}

// isTold reports whether the lists of a reply are such that it has a text.
func isTold(r api.Reply) bool {
	if max(len(r.List), len(r.Postings), len(r.Readings), len(r.Proofs)) > api.MaxPostings {
		return false
	}
	return !slices.ContainsFunc(r.Readings, func(x api.Reading) bool {
		return len(x.Times) != len(x.Reads) || len(x.Times) > api.MaxPostings
	})
}

// Tell returns the text of a reply.
func Tell(r api.Reply) (string, api.Errno) {
	t := &teller{}
	if r.Errno != api.OK {
		t.numbers("error", int(r.Errno))
		return t.String(), api.OK
	}
	if !isTold(r) {
		return "", api.ErrLimit
	}
	postings, e := rates.Print(r.Postings)
	if e != api.OK {
		return "", e
	}
	t.plain(r)
	t.lists(r, postings)
	return t.String(), api.OK
}
