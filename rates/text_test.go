package rates_test

import (
	"strings"
	"testing"

	"patrol/api"
	"patrol/rates"
)

// textual checks that a list of postings has a text.
func textual(t *testing.T, l []api.Posting, want string) {
	t.Helper()
	text, e := rates.Print(l)
	if text != want || e != api.OK {
		t.Errorf("Print: %q %d, not %q", text, e, want)
	}
	got, e := rates.Parse(want)
	same(t, "Parse", got, l, e)
}

func TestP7_14(t *testing.T) {
	textual(t, nil, "")
	textual(t, postings(post(0, 0, -1, -2, 1)), "0 0 -1 -2 1\n")
	textual(t, postings(post(api.MaxNight, api.MaxRounds, api.MaxID, 1, api.MaxAmount)), "20000 12 1099511627776 1 1099511627776\n")
	textual(t, postings(post(9, 3, 5, 6, 7), post(8, 10, -2, 100, 20), post(9, 3, 5, 6, 7)), "9 3 5 6 7\n8 10 -2 100 20\n9 3 5 6 7\n")
	text, e := rates.Print(manyPostings(api.MaxPostings))
	if e != api.OK || strings.Count(text, "\n") != api.MaxPostings {
		t.Error("Print", len(text), e)
	}
	textual(t, manyPostings(api.MaxPostings), text)
}

// TestP7_14Malformed parses texts of which none is that of a list of postings.
func TestP7_14Malformed(t *testing.T) {
	for _, text := range []string{
		"\n", " ", "0", "1 2 3 4 5", "1 2 3 4\n", "1 2 3 4 5 6\n", "1 2 3 4 5 \n", " 1 2 3 4 5\n", "1  2 3 4 5\n", "1 2 3 4  5\n", "1\t2 3 4 5\n", "1 2 3 4 5\r\n", "1 2 3 4 5\n\n", "\n1 2 3 4 5\n", "1 2 3 4 5\n1 2 3 4 5", "1 2 3 4 5\n6", "1 2 3 4 5 1 2 3 4 5\n", "1 2 3 4 5\x00\n", "1,2,3,4,5\n", "1 2 3\n4 5\n",
		"01 2 3 4 5\n", "1 02 3 4 5\n", "1 2 03 4 5\n", "1 2 3 04 5\n", "1 2 3 4 05\n", "+1 2 3 4 5\n", "1 2 3 4 +5\n", "-0 2 3 4 5\n", "1 -0 3 4 5\n", "1 2 -01 4 5\n", "1 2 --1 4 5\n", "1 2 - 1 5\n", "1 2 3 4 5_0\n", "1 2 3 4 0x5\n", "1 2 3 4 5.0\n", "1 2 3 4 x\n", "a b c d e\n", "1 2 house 4 5\n", "1 2 3 4 \n", " 2 3 4 5\n", "1 2  4 5\n",
		"-1 2 3 4 5\n", "20001 2 3 4 5\n", "1 -1 3 4 5\n", "1 13 3 4 5\n", "1 2 0 4 5\n", "1 2 -3 4 5\n", "1 2 3 0 5\n", "1 2 3 -3 5\n", "1 2 3 3 5\n", "1 2 -1 -1 5\n", "1 2 1099511627777 4 5\n", "1 2 3 1099511627777 5\n", "1 2 3 4 0\n", "1 2 3 4 -5\n", "1 2 3 4 1099511627777\n", "1 2 3 4 18446744073709551621\n", "1 2 3 4 99999999999999999999999\n",
		strings.Repeat("1 2 3 4 5\n", api.MaxPostings+1), strings.Repeat("1 2 3 4 5\n", api.MaxPostings) + "6", strings.Repeat("1 2 3 4 5\n", api.MaxPostings) + "\n", "1 2 3 4 5" + strings.Repeat(" 6", 100000) + "\n", strings.Repeat("\n", 100000),
	} {
		if l, e := rates.Parse(text); e != api.ErrForm || len(l) > 0 {
			t.Errorf("Parse: %.100q: %v %d", text, l, e)
		}
	}
}

// TestP7_14Chance prints and parses lists that chance makes, and changes their texts: what is parsed has this text.
func TestP7_14Chance(t *testing.T) {
	r := chance(14)
	for range 3000 {
		l := r.postings(6, 30)
		text, e := rates.Print(l)
		if e != api.OK {
			t.Error("Print", l, e)
		}
		textual(t, l, text)
		for range 10 {
			other := []byte(text + "\n")
			other[r.n(len(other))] = " \n-+0123456789x"[r.n(15)]
			if l, e := rates.Parse(string(other)); e == api.OK {
				textual(t, l, string(other))
			} else if e != api.ErrForm || len(l) > 0 {
				t.Errorf("Parse: %q: %v %d", other, l, e)
			}
		}
	}
}
