package tribunal

import (
	"strconv"
	"strings"

	"patrol/api"
	"patrol/house"
)

// isIn reports whether an integer is from lo to hi.
func isIn(n, lo, hi int) bool { return lo <= n && n <= hi }

// isTime reports whether an integer is a time.
func isTime(t int) bool { return isIn(t, 0, api.MaxTime) }

// isID reports whether an integer can be an ID.
func isID(n int) bool { return isIn(n, 1, api.MaxID) }

// isAccount reports whether an integer is an account.
func isAccount(n int) bool { return n == api.AcHouse || n == api.AcInsurer || isID(n) }

// isOffice reports whether an integer is the number of an office.
func isOffice(n int) bool { return isIn(n, 1, api.MaxOffices) }

// isNo reports whether an integer is the number of a fact of an office.
func isNo(n int) bool { return isIn(n, 1, api.MaxNo) }

// isPlace reports whether a room can have a name.
func isPlace(name string) bool {
	e, _ := house.Check(api.House{Rooms: []api.Room{{Name: name}}})
	return e == api.OK
}

// isWithin reports whether a span lies from 0 to hi.
func isWithin(x api.Span, hi int) bool { return 0 <= x.Lo && x.Lo <= x.Hi && x.Hi <= hi }

// isOfTimes reports whether a span is one of times.
func isOfTimes(x api.Span) bool { return isWithin(x, api.MaxTime) }

// isOfNights reports whether a span is one of nights, which are not too many.
func isOfNights(x api.Span) bool { return isWithin(x, api.MaxNight) && x.Hi-x.Lo < api.MaxNights }

// part is a field of questions, which their lines have a word for.
type part interface {
	isRight(q api.Question) bool           // whether the field is valid
	keep(to *api.Question, q api.Question) // takes the field over into another question
	word(q api.Question) string            // the word of the field
	read(q *api.Question, word string)     // sets the field to the value of a word; if it has none, to any
}

// field is a part of the type T.
type field[T any] struct {
	of    func(q *api.Question) *T // where a question has the field
	right func(x T) bool           // which values are valid
	tell  func(x T) string         // the word of a value
	hear  func(word string) T      // the value of a word; if it has none, any
}

func (f field[T]) isRight(q api.Question) bool { return f.right(*f.of(&q)) }

func (f field[T]) keep(to *api.Question, q api.Question) { *f.of(to) = *f.of(&q) }

func (f field[T]) word(q api.Question) string { return f.tell(*f.of(&q)) }

func (f field[T]) read(q *api.Question, word string) { *f.of(q) = f.hear(word) }

// hearNumber returns the number of a word; if it has none, any.
func hearNumber(word string) int {
	n, _ := strconv.Atoi(word)
	return n
}

// number returns a field that is a number.
func number(of func(q *api.Question) *int, right func(n int) bool) part {
	return field[int]{of, right, strconv.Itoa, hearNumber}
}

// tellSpan returns the word of a span.
func tellSpan(x api.Span) string { return strconv.Itoa(x.Lo) + "-" + strconv.Itoa(x.Hi) }

// hearSpan returns the span of a word.
func hearSpan(word string) api.Span {
	lo, hi, _ := strings.Cut(word, "-")
	return api.Span{Lo: hearNumber(lo), Hi: hearNumber(hi)}
}

// span returns the field that is a span.
func span(right func(x api.Span) bool) part {
	return field[api.Span]{func(q *api.Question) *api.Span { return &q.Span }, right, tellSpan, hearSpan}
}

// place returns the field that is a name.
func place() part {
	same := func(name string) string { return name }
	return field[string]{func(q *api.Question) *string { return &q.Place }, isPlace, same, same}
}

// kind is the questions of a kind: the first word of their lines, and the fields that they have.
type kind struct {
	word  string
	parts []part
}

// kinds returns the kinds of questions.
func kinds() map[int]kind {
	known := number(func(q *api.Question) *int { return &q.Known }, isTime)
	dial := number(func(q *api.Question) *int { return &q.Dial }, isID)
	account := number(func(q *api.Question) *int { return &q.Account }, isAccount)
	before := number(func(q *api.Question) *int { return &q.Before }, isTime)
	office := number(func(q *api.Question) *int { return &q.Name.Office }, isOffice)
	no := number(func(q *api.Question) *int { return &q.Name.No }, isNo)
	return map[int]kind{
		api.QuVerdict: {"verdict", []part{known, dial}},
		api.QuMissed:  {"missed", []part{known, dial, place()}},
		api.QuWhen:    {"when", []part{known, dial, place()}},
		api.QuWho:     {"who", []part{known, dial, place()}},
		api.QuPlaced:  {"placed", []part{known, dial, place(), span(isOfTimes)}},
		api.QuBalance: {"balance", []part{known, account, span(isOfNights)}},
		api.QuAmend:   {"amend", []part{known, before, span(isOfNights)}},
		api.QuRests:   {"rests", []part{known, office, no}},
	}
}

// CheckQuestion returns the error of a question.
func CheckQuestion(q api.Question) api.Errno {
	k, is := kinds()[q.Kind]
	if !is {
		return api.ErrArg
	}
	only := api.Question{Kind: q.Kind}
	for _, x := range k.parts {
		if !x.isRight(q) {
			return api.ErrArg
		}
		x.keep(&only, q)
	}
	if only != q {
		return api.ErrArg // it has a field that is none of its kind
	}
	return api.OK
}

// Print returns the line of a question.
func Print(q api.Question) (string, api.Errno) {
	if e := CheckQuestion(q); e != api.OK {
		return "", e
	}
	k := kinds()[q.Kind]
	line := k.word
	for _, x := range k.parts {
		line += " " + x.word(q)
	}
	return line, api.OK
}

// read returns the question of a line; if it has none, any.
func read(line string) api.Question {
	words := strings.Split(line, " ")
	var q api.Question
	for n, k := range kinds() {
		if k.word != words[0] || len(k.parts) != len(words)-1 {
			continue
		}
		q.Kind = n
		for i, x := range k.parts {
			x.read(&q, words[i+1])
		}
	}
	return q
}

// Parse returns the question of a line.
func Parse(text string) (api.Question, api.Errno) {
	q := read(text)
	// Only what Print would write counts: not a number with a sign or a zero too many, nor a word that has no value.
	if line, e := Print(q); e != api.OK || line != text {
		return api.Question{}, api.ErrForm
	}
	return q, api.OK
}
