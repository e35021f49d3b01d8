package custody

import (
	"strconv"
	"strings"

	"patrol/api"
)

// The words with which lines begin.
const (
	bookWord   = "custody"
	personWord = "person"
	keyWord    = "key"
	passWord   = "pass"
	copyWord   = "copy"
	loseWord   = "lose"
	findWord   = "find"
)

const (
	mostLines = 1 + api.MaxPeople + api.MaxHeld + api.MaxEntries // lines of a text
	mostWords = 2 + api.MaxDuty                                  // words of a line
)

// lineOf returns the line of a word, some numbers, and some spans.
func lineOf(word string, numbers []int, spans []api.Span) string {
	words := []string{word}
	for _, n := range numbers {
		words = append(words, strconv.Itoa(n))
	}
	for _, x := range spans {
		words = append(words, strconv.Itoa(x.Lo)+"-"+strconv.Itoa(x.Hi))
	}
	return strings.Join(words, " ") + "\n"
}

// entryLine returns the line of an entry.
func entryLine(x api.Entry) string {
	at := []api.Span{x.At}
	switch x.Kind {
	case api.CuPass:
		return lineOf(passWord, []int{x.ID, x.Key, x.From, x.To}, at)
	case api.CuCopy:
		return lineOf(copyWord, []int{x.ID, x.Key, x.From}, at)
	case api.CuLose:
		return lineOf(loseWord, []int{x.ID, x.Key, x.From}, at)
	}
	return lineOf(findWord, []int{x.ID, x.Key, x.To}, at)
}

// Print returns the text of a book.
func Print(c api.Custody) (string, api.Errno) {
	if e := Check(c); e != api.OK {
		return "", e
	}
	var s strings.Builder
	s.WriteString(lineOf(bookWord, []int{c.Gaps}, nil))
	for _, p := range c.People {
		s.WriteString(lineOf(personWord, []int{p.ID}, p.Duty))
	}
	for _, key := range c.Keys {
		s.WriteString(lineOf(keyWord, []int{key}, nil))
	}
	for _, x := range c.Entries {
		s.WriteString(entryLine(x))
	}
	return s.String(), api.OK
}

// readNumbers returns the numbers of some words; false if one has none.
func readNumbers(words []string) ([]int, bool) {
	var l []int
	for _, word := range words {
		n, err := strconv.Atoi(word)
		if err != nil {
			return nil, false
		}
		l = append(l, n)
	}
	return l, true
}

// readSpans returns the spans of some words; false if one has none.
func readSpans(words []string) ([]api.Span, bool) {
	var l []api.Span
	for _, word := range words {
		lo, hi, _ := strings.Cut(word, "-")
		n, ok := readNumbers([]string{lo, hi})
		if !ok {
			return nil, false
		}
		l = append(l, api.Span{Lo: n[0], Hi: n[1]})
	}
	return l, true
}

// reader returns the function that reads a line of n numbers and of spans, and tells them to another function; it returns false if the line is another one.
func reader(n int, tell func(numbers []int, spans []api.Span)) func(words []string) bool {
	return func(words []string) bool {
		if len(words) < n {
			return false
		}
		numbers, ok := readNumbers(words[:n])
		spans, is := readSpans(words[n:])
		if ok && is {
			tell(numbers, spans)
		}
		return ok && is
	}
}

// entryReader returns the function that reads a line of n numbers and one span, of which another one makes an entry that is added to a book.
func entryReader(c *api.Custody, n int, entry func(l []int) api.Entry) func(words []string) bool {
	read := reader(n, func(numbers []int, spans []api.Span) {
		x := entry(numbers)
		x.ID, x.Key, x.At = numbers[0], numbers[1], spans[0]
		c.Entries = append(c.Entries, x)
	})
	return func(words []string) bool { return len(words) == n+1 && read(words) }
}

// readers returns the functions that read the words behind the first one of a line, by this word, and add what it tells to a book.
func readers(c *api.Custody) map[string]func(words []string) bool {
	return map[string]func(words []string) bool{
		bookWord: reader(1, func(l []int, _ []api.Span) { c.Gaps = l[0] }),
		personWord: reader(1, func(l []int, spans []api.Span) {
			c.People = append(c.People, api.Person{ID: l[0], Duty: spans})
		}),
		keyWord: reader(1, func(l []int, _ []api.Span) { c.Keys = append(c.Keys, l[0]) }),
		passWord: entryReader(c, 4, func(l []int) api.Entry {
			return api.Entry{Kind: api.CuPass, From: l[2], To: l[3]}
		}),
		copyWord: entryReader(c, 3, func(l []int) api.Entry { return api.Entry{Kind: api.CuCopy, From: l[2]} }),
		loseWord: entryReader(c, 3, func(l []int) api.Entry { return api.Entry{Kind: api.CuLose, From: l[2]} }),
		findWord: entryReader(c, 3, func(l []int) api.Entry { return api.Entry{Kind: api.CuFind, To: l[2]} }),
	}
}

// Parse returns the book of a text.
func Parse(text string) (api.Custody, api.Errno) {
	var c api.Custody
	read, lines := readers(&c), 0
	for line := range strings.Lines(text) {
		lines++
		words := strings.SplitN(strings.TrimSuffix(line, "\n"), " ", mostWords+1)
		tell, is := read[words[0]]
		if lines > mostLines || !is || !tell(words[1:]) {
			return api.Custody{}, api.ErrForm
		}
	}
	// Only what Print would write counts: not a number with a sign or a zero too many, another order of the lines, or a last line without its end.
	if again, e := Print(c); e != api.OK || again != text {
		return api.Custody{}, api.ErrForm
	}
	return c, api.OK
}
