package custody_test

import (
	"strings"
	"testing"

	"patrol/api"
	"patrol/custody"
)

const exampleText = "custody 0\nperson 1 0-1000\nperson 2 500-2000\nkey 7\npass 1 7 0 1 100-200\npass 2 7 1 2 400-600\ncopy 3 7 2 300-700\npass 4 7 2 0 900-900\n"

// textual checks that a book has a text.
func textual(t *testing.T, c api.Custody, want string) {
	t.Helper()
	text, e := custody.Print(c)
	if text != want || e != api.OK {
		t.Errorf("Print: %q %d, not %q", text, e, want)
	}
	got, e := custody.Parse(want)
	sameBook(t, "Parse", got, c, e)
}

func TestP6_3(t *testing.T) {
	textual(t, exampleBook(), exampleText)
	textual(t, api.Custody{}, "custody 0\n")
	textual(t, api.Custody{Gaps: 3, People: []api.Person{person(4)}}, "custody 3\nperson 4\n")
	textual(t, api.Custody{
		Gaps: 1, People: []api.Person{person(1), person(api.MaxID, span(0, 0), span(1, 1), span(api.MaxTime, api.MaxTime))}, Keys: []int{1, api.MaxID},
		Entries: []api.Entry{find(api.MaxID, api.MaxID, 0, 0, api.MaxTime), find(3, 1, 1, 2, 2), lose(2, 1, 0, 5, 9), lose(1, 1, api.MaxID, 10, 10), copying(4, 1, 1, 0, 0), pass(9, 1, api.MaxID, 0, 7, 8)},
	}, "custody 1\nperson 1\nperson 1099511627776 0-0 1-1 1073741823-1073741823\nkey 1\nkey 1099511627776\nfind 1099511627776 1099511627776 0 0-1073741823\nfind 3 1 1 2-2\nlose 2 1 0 5-9\nlose 1 1 1099511627776 10-10\ncopy 4 1 1 0-0\npass 9 1 1099511627776 0 7-8\n")
	text, e := custody.Print(fullBook())
	if e != api.OK || strings.Count(text, "\n") != 1+api.MaxPeople+api.MaxHeld+api.MaxEntries {
		t.Error("Print", text, e)
	}
	textual(t, fullBook(), text)
}

// TestP6_3Malformed parses texts of which none is that of a book.
func TestP6_3Malformed(t *testing.T) {
	const start = "custody 0\nperson 1\nperson 2\nkey 7\n"
	for _, text := range []string{
		"", "\n", "custody\n", "custody 0", "custody 0 \n", " custody 0\n", "custody  0\n", "custody 0\n\n", "\ncustody 0\n", "custody -1\n", "custody 4\n", "custody 00\n", "custody +1\n", "custody -0\n", "custody 1 1\n", "custody 1 1-2\n", "custody x\n", "Custody 0\n", "custody 0\r\n", "custody\t0\n", "custody 0\x00\n", "custody 1_0\n", "custody 0x1\n", "custody 99999999999999999999\n", "custody 18446744073709551616\n",
		"custody 0\ncustody 0\n", "key 7\ncustody 0\n", "person 1\n", "custody 0\nkey 7\nperson 1\n", "custody 0\nperson 2\nperson 1\n", "custody 0\nkey 7\nkey 7\n", "custody 0\nkey 8\nkey 7\n", "pass 1 7 0 1 0-0\n" + start, "custody 0\nperson 1\nperson 2\npass 1 7 0 1 0-0\nkey 7\n", "custody 0\nperson 2\npass 1 7 0 1 0-0\nperson 1\nkey 7\n",
		"custody 0\nkey\n", "custody 0\nkey 0\n", "custody 0\nkey 07\n", "custody 0\nkey 1099511627777\n", "custody 0\nkey 7 8\n", "custody 0\nkey 7 8-9\n", "custody 0\nkey 7-8\n", "custody 0\nkeys 7\n",
		"custody 0\nperson\n", "custody 0\nperson 0\n", "custody 0\nperson 1 \n", "custody 0\nperson 1 5\n", "custody 0\nperson 1 5-\n", "custody 0\nperson 1 -5\n", "custody 0\nperson 1 -\n", "custody 0\nperson 1 -5-6\n", "custody 0\nperson 1 5--6\n", "custody 0\nperson 1 5-6-7\n", "custody 0\nperson 1 05-6\n", "custody 0\nperson 1 5-+6\n", "custody 0\nperson 1 5 - 6\n", "custody 0\nperson 1 6-5\n", "custody 0\nperson 1 5-6  7-8\n", "custody 0\nperson 1 5-6 6-8\n", "custody 0\nperson 1 7-8 5-6\n", "custody 0\nperson 1 0-1073741824\n", "custody 0\nperson 1 0-0 1-1 2-2 3-3 4-4 5-5 6-6\n", "custody 0\nperson 1 0-0 1-1 2-2 3-3 4-4 5-5 \n", "custody 0\nperson 1 a-b\n", "custody 0\nperson 1" + strings.Repeat(" 1-1", 10000) + "\n", "custody 0\n" + strings.Repeat("person 1\n", 10000), strings.Repeat("custody 0\n", 10000),
		start + "pass\n", start + "pass 1 7 0 1\n", start + "pass 1 7 0 1 0-0 0-0\n", start + "pass 1 7 0 1 0-0 \n", start + "pass 1 7 0 0-0\n", start + "pass 1 7 0 1 2 0-0\n", start + "pass 1 7 0 1 0-0", start + "pass 1 7 1 1 0-0\n", start + "pass 1 7 0 3 0-0\n", start + "pass 1 7 -1 1 0-0\n", start + "pass 1 7 0 -1 0-0\n", start + "pass 1 8 0 1 0-0\n", start + "pass 0 7 0 1 0-0\n", start + "pass 1 7 0 1 1-0\n", start + "pass 1 7 0 1 0\n", start + "pass 01 7 0 1 0-0\n", start + "pass 1 7 00 1 0-0\n", start + "pass 1 7 0 +1 0-0\n", start + "pass 1 7 board 1 0-0\n", start + "pass 1 7 0 1 0-0\npass 1 7 0 1 0-0\n", start + "passes 1 7 0 1 0-0\n", start + " pass 1 7 0 1 0-0\n",
		start + "copy 1 7 0 0-0\n", start + "copy 1 7 3 0-0\n", start + "copy 1 7 1 2 0-0\n", start + "copy 1 7 1 0 0-0\n", start + "copy 1 7 0-0\n", start + "copy 1 7 1\n", start + "copy 1 7\n",
		start + "lose 1 7 3 0-0\n", start + "lose 1 7 -1 0-0\n", start + "lose 1 7 1 0 0-0\n", start + "lose 1 7 0-0\n", start + "lose 1 7 0\n", start + "lose 1 7 1 0--1\n",
		start + "find 1 7 3 0-0\n", start + "find 1 7 -1 0-0\n", start + "find 1 7 0 1 0-0\n", start + "find 1 7 0-0\n", start + "find 1 7 0\n", start + "find\n", start + "take 1 7 1 0-0\n",
		start + "pass 1 7 0 1 0-0\npass 2 7 0 1 0-0\npass 3 7 0 1 0-0\npass 4 7 0 1 0-0\npass 5 7 0 1 0-0\npass 6 7 0 1 0-0\npass 7 7 0 1 0-0\npass 8 7 0 1 0-0\n",
	} {
		if c, e := custody.Parse(text); e != api.ErrForm || !isSame(c, api.Custody{}) {
			t.Errorf("Parse: %q: %v %d", text, c, e)
		}
	}
}

// TestP6_17 prints and parses books that chance makes.
func TestP6_17(t *testing.T) {
	r := chance(17)
	for range 2000 {
		c := r.book(sizes{people: 8, keys: 5, entries: 7, gaps: 3, lo: r.pick(0, 500, api.MaxTime-20), hi: api.MaxTime})
		text, e := custody.Print(c)
		got, f := custody.Parse(text)
		sameBook(t, "Parse of Print", got, c, f)
		if e != api.OK {
			t.Error(e)
		}
	}
}

// TestP6_17Edits changes one byte of a text; what Parse takes is what Print would write.
func TestP6_17Edits(t *testing.T) {
	other, _ := custody.Print(api.Custody{
		Gaps: 2, People: []api.Person{person(1, span(0, 10), span(12, 20)), person(12)}, Keys: []int{1, 20},
		Entries: []api.Entry{find(30, 20, 12, 0, 90), lose(2, 1, 0, 5, 9), copying(4, 1, 12, 1, 10), pass(9, 1, 1, 0, 7, 8)},
	})
	taken := 0
	for _, text := range []string{exampleText, other} {
		for k := range len(text) + 1 {
			for _, x := range []string{"", "0", "1", "9", " ", "\n", "-", "+", "a", "s", "\xff"} {
				for _, s := range []string{text[:k] + x + text[k:], text[:k] + x + text[min(k+1, len(text)):]} {
					got, e := custody.Parse(s)
					again, _ := custody.Print(got)
					if e == api.OK && again != s || e != api.OK && (e != api.ErrForm || !isSame(got, api.Custody{})) {
						t.Errorf("Parse: %q: %v %d", s, got, e)
					}
					if e == api.OK && s != text {
						taken++
					}
				}
			}
		}
	}
	if taken < 100 {
		t.Error("not an even test:", taken)
	}
}
