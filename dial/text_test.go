package dial_test

import (
	"slices"
	"strings"
	"testing"

	"patrol/api"
	"patrol/dial"
)

func TestP1_15Print(t *testing.T) {
	for i, c := range []struct {
		ms   []api.Mark
		want string
		e    api.Errno
	}{
		{nil, "", api.OK}, {[]api.Mark{}, "", api.OK},
		{[]api.Mark{{}}, "0 0 0 ????????????\n", api.OK},
		{[]api.Mark{mark(98, 0, 1, 9, 4086)}, "1 98 0 #..#........\n", api.OK},
		{[]api.Mark{mark(43199, 43198, 3, 1, 2048), mark(0, 43199, 2, 4095, 0), mark(7, 10, 0, 0, 4095)}, "3 43199 43198 #??????????.\n2 0 43199 ############\n0 7 10 ............\n", api.OK},
		{[]api.Mark{mark(98, 0, 1, 1+4+1024, 2+2048), mark(98, 0, 1, 1+4+1024, 2+2048)}, strings.Repeat("1 98 0 #.#???????#.\n", 2), api.OK},
		{make([]api.Mark, api.MaxMarks), strings.Repeat("0 0 0 ????????????\n", api.MaxMarks), api.OK},
		{make([]api.Mark, api.MaxMarks+1), "", api.ErrLimit},
		{append(make([]api.Mark, api.MaxMarks), api.Mark{Track: -1}), "", api.ErrLimit},
		{append(make([]api.Mark, api.MaxMarks-1), api.Mark{Track: -1}), "", api.ErrArg},
	} {
		if s, e := dial.Print(c.ms); s != c.want || e != c.e {
			t.Errorf("Print: %d: %q %d", i, s, e)
		}
		if c.e == api.OK {
			if ms, e := dial.Parse(c.want); e != api.OK || !slices.Equal(ms, c.ms) {
				t.Error("Parse", i, ms, e)
			}
		}
	}
	for _, bad := range badMarks() {
		if s, e := dial.Print([]api.Mark{{}, bad, {}}); s != "" || e != api.ErrArg {
			t.Errorf("Print: %v: %q %d", bad, s, e)
		}
	}
}

func TestP1_15Malformed(t *testing.T) {
	good := "1 98 0 #..#........\n"
	for _, s := range []string{
		"\n", " ", " \n", good + "\n", "\n" + good, good + " ", " " + good, good[:len(good)-1], good + good[:len(good)-1], good[:len(good)-1] + " \n", good[:len(good)-1] + "\r\n", good[:len(good)-1] + "\r",
		"1  98 0 #..#........\n", "1 98  0 #..#........\n", "1 98 0  #..#........\n", "1\t98 0 #..#........\n", "1 98 0\n#..#........\n", "1 98 0#..#........\n", "1 98 #..#........\n", "98 0 #..#........\n", "1 98 0 0 #..#........\n",
		"01 98 0 #..#........\n", "1 098 0 #..#........\n", "1 98 00 #..#........\n", "+1 98 0 #..#........\n", "1 +98 0 #..#........\n", "1 98 +0 #..#........\n", "1 98 -0 #..#........\n", "-0 98 0 #..#........\n", "-1 98 0 #..#........\n", "1 -1 0 #..#........\n", "1 98 -1 #..#........\n",
		"4 98 0 #..#........\n", "1 43200 0 #..#........\n", "1 0 43200 #..#........\n", "1 1 43199 #..#........\n", "1 9_8 0 #..#........\n", "1 0x8 0 #..#........\n", "1 9.0 0 #..#........\n", "1 1e1 0 #..#........\n", "x 98 0 #..#........\n", "1 x 0 #..#........\n", "1 98 x #..#........\n", "1  0 #..#........\n", " 98 0 #..#........\n",
		"18446744073709551617 98 0 #..#........\n", "1 18446744073709551714 0 #..#........\n", "1 98 18446744073709551616 #..#........\n", "1 99999999999999999999999999 0 #..#........\n",
		"1 98 0 #..#.......\n", "1 98 0 #..#.........\n", "1 98 0 \n", "1 98 0\n", "1 98 0 #..#.......x\n", "1 98 0 X..#........\n", "1 98 0 #..#.... ...\n", "1 98 0 #..#........#\n", "1 98 0 #..#.......\xff\n", "1 98 0 #..#......\u00e9\n", "1 98 0 #..#.......\x00\n", "\ufeff" + good,
		strings.Repeat(good, api.MaxMarks+1), strings.Repeat(good, api.MaxMarks) + "\n", strings.Repeat(good, api.MaxMarks) + "x", strings.Repeat(good, api.MaxMarks-1) + "1 43200 0 #..#........\n",
	} {
		if ms, e := dial.Parse(s); e != api.ErrForm || len(ms) != 0 {
			t.Errorf("Parse: %q: %v %d", s, ms, e)
		}
	}
	if ms, e := dial.Parse(strings.Repeat(good, api.MaxMarks)); e != api.OK || len(ms) != api.MaxMarks {
		t.Error("Parse of as many marks as there may be:", len(ms), e)
	}
}

// TestP1_15Edits changes one byte of a text; what Parse takes is what Print would write.
func TestP1_15Edits(t *testing.T) {
	c := chance(15)
	for range 40 {
		var ms []api.Mark
		for range c.n(4) {
			ms = append(ms, c.mark())
		}
		text, e := dial.Print(ms)
		if e != api.OK {
			t.Fatal("Print", ms, e)
		}
		if got, e := dial.Parse(text); e != api.OK || !slices.Equal(got, ms) {
			t.Error("Parse of Print:", ms, got, e)
		}
		for k := range len(text) {
			for _, x := range []string{"", "0", "1", "9", " ", "\n", "#", ".", "?", "-", "+"} {
				for _, s := range []string{text[:k] + x + text[k:], text[:k] + x + text[k+1:]} {
					got, e := dial.Parse(s)
					again, _ := dial.Print(got)
					if e == api.OK && again != s || e != api.OK && (e != api.ErrForm || len(got) > 0) {
						t.Errorf("Parse: %q: %v %d", s, got, e)
					}
				}
			}
		}
	}
}
