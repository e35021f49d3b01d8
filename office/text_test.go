package office_test

import (
	"strconv"
	"strings"
	"testing"

	"patrol/api"
	"patrol/office"
)

// textual checks that a fact has a text.
func textual(t *testing.T, f api.Fact, want string) {
	t.Helper()
	text, e := office.Encode(f)
	same(t, "Encode", text, e, want)
	got, e := office.Decode(want)
	same(t, "Decode", got, e, f)
}

const (
	settingText = "fact 8 60 0 1\nsetting 12\nink 1 2 30\nkey 1 0 7\nkey 2 0 56\nkey 3 0 448\nkey 1099511627776 3 4095\nstation gate 1 0\nstation mill 2 1\nstation loft 3 2\nroom gate -2\nroom mill 0\nroom loft 1\ndoor 21600-64800 shut\ndoor shut\ndoor shut 5-6 8-99\nway 0 1 60 60 -1\nway 1 2 30 0 0\n"
	dialText    = "fact 1 2 7 2\ndial 7 3 1 2 30000\ncrew 3 9 1099511627776\nsession 4 30000-30010 39000-41000 1-9 9000-11000 990000-1010000\nstop 50 1-2\nstop 60 3-30\norder gate then after 60 to 90 (each(mill, loft) or times 1 to 2 mill) within 5000\n"
	lookText    = "fact 2 1 60000 3\nlook 7 4\n0 1000 0 ###.........\n0 1100 0 ...?????????\n0 1200 0 ......###???\n"
	policyText  = "fact 3 9 1073741823 4\npolicy 2 500 40 100 30 60 250\n"
	custodyText = "fact 4 4 70000 5\ncustody 2\nperson 3 1-2 4-9\nperson 9\nkey 1\nkey 2\npass 5 2 0 9 1-7\nlose 4 1 3 2-3\n"
	targetText  = "fact 5 2 80000 6\nwithdraw 5 3\n"
)

// richTexts are the texts of richFacts.
func richTexts() []string {
	return []string{settingText, dialText, lookText, policyText, custodyText, targetText}
}

func TestP8_10(t *testing.T) {
	for k, text := range richTexts() {
		textual(t, richFacts()[k], text)
	}
	textual(t, exampleFacts()[4], "fact 2 2 80000 6\nwithdraw 3 1\n")
	// The shortest texts of all kinds.
	textual(t, settingFact(1, 1, 0, api.Setting{House: api.House{Rooms: []api.Room{{Name: "a"}}}}), "fact 1 1 0 1\nsetting 0\nink 0 0 0\nroom a 0\n")
	textual(t, dialFact(1, 1, 0, api.Dial{No: 1, Round: 1, Crew: []int{1}, Session: api.Session{ID: 1, Rate: span(900000, 900000)}, Order: sourced("a")}), "fact 1 1 0 2\ndial 1 0 1 0 0\ncrew 1\nsession 1 0-0 0-0 0-0 0-0 900000-900000\norder a\n")
	textual(t, lookFact(1, 1, 0, 1, 1), "fact 1 1 0 3\nlook 1 1\n")
	textual(t, policyFact(1, 1, 0, api.Policy{}), "fact 1 1 0 4\npolicy 0 0 0 0 0 0 0\n")
	textual(t, custodyFact(1, 1, 0, api.Custody{}), "fact 1 1 0 5\ncustody 0\n")
	// Names that are words of the language.
	textual(t, settingFact(1, 1, 0, api.Setting{Keys: []api.Key{{ID: 5, Pattern: 1}, {ID: 6, Pattern: 1}}, Stations: []api.Station{{Name: "room", Key: 5}, {Name: "12", Key: 6}}, House: api.House{Rooms: []api.Room{{Name: "station"}, {Name: "key"}}}}), "fact 1 1 0 1\nsetting 0\nink 0 0 0\nkey 5 0 1\nkey 6 0 1\nstation room 5 0\nstation 12 6 0\nroom station 0\nroom key 0\n")
}

// TestP8_10Long prints and reads facts that are as large as there may be.
func TestP8_10Long(t *testing.T) {
	f := rich(api.FaDial, func(f *api.Fact) { f.Dial.Order = longOrder() })
	text, e := office.Encode(f)
	if e != api.OK || len(text) < 1600 {
		t.Error("Encode", len(text), e)
	}
	textual(t, f, text)
	f = largeSetting()
	text, e = office.Encode(f)
	if e != api.OK || len(text) < 5000 {
		t.Error("Encode", len(text), e)
	}
	textual(t, f, text)
	page, e := office.Page(api.MaxFacts, f)
	if len(page) > api.MaxPage || e != api.OK {
		t.Error("Page", len(page), e)
	}
	textual(t, lookFact(8, 60, api.MaxTime, api.MaxID, api.MaxID, make([]api.Mark, api.MaxStrikes)...), "fact 8 60 1073741823 3\nlook 1099511627776 1099511627776\n"+strings.Repeat("0 0 0 ????????????\n", api.MaxStrikes))
}

// largeSetting returns a fact with as many keys, stations, rooms, doors and ways as there may be.
func largeSetting() api.Fact {
	s := api.Setting{Since: api.MaxTime, Ink: api.Ink{Faint: 4, Stray: 4, Slip: 600}}
	for k := range api.MaxBunch {
		s.Keys = append(s.Keys, api.Key{ID: api.MaxID - api.MaxBunch + k + 1, Track: 3, Pattern: 4095})
	}
	for k := range api.MaxStations {
		s.Stations = append(s.Stations, api.Station{Name: "stationnumber" + strconv.Itoa(100+k), Key: api.MaxID - k, Room: 23})
	}
	for k := range api.MaxRooms {
		s.House.Rooms = append(s.House.Rooms, api.Room{Name: "averylongname" + strconv.Itoa(100+k), Floor: -60})
	}
	for range api.MaxDoors {
		var d api.Door
		for k := range api.MaxSpans {
			d.Hours = append(d.Hours, span(10000+10*k, 10005+10*k))
			d.Shut = append(d.Shut, span(1000000000+10*k, 1000000005+10*k))
		}
		s.House.Doors = append(s.House.Doors, d)
	}
	for range api.MaxWays {
		s.House.Ways = append(s.House.Ways, api.Way{A: 22, B: 23, Secs: 3600, Back: 3600, Door: 15})
	}
	return settingFact(8, 60, api.MaxTime, s)
}

// malformed checks that some texts are those of no fact.
func malformed(t *testing.T, texts ...string) {
	t.Helper()
	for _, text := range texts {
		if f, e := office.Decode(text); e != api.ErrForm || !isEqual(f, api.Fact{}) {
			t.Errorf("Decode: %q: %v %d", text, f, e)
		}
	}
}

func TestP8_10Malformed(t *testing.T) {
	malformed(t, "", "\n", "fact", "fact\n", "fact \n", "fact 1\n", "fact 1 1 0\n", "fact 1 1 0 \n", "fact 1 1 0 4\n", "fact 1 1 0 0\n", "fact 1 1 0 7\n", "fact 1 1 0 -1\n", "fact 1 1 0 4 4\n", "page 1 1 1\n", "policy 0 0 0 0 0 0 0\n", " "+policyText, "\n"+policyText, policyText+"\n", policyText+" ", policyText+policyText, policyText[:len(policyText)-1], strings.ReplaceAll(policyText, "\n", "\r\n"), strings.ToUpper(policyText), "x"+policyText, "\xff", policyText+"\x00", "fact 1 1 0 99999999999999999999999999\n", strings.Repeat("fact ", 1000), strings.Repeat("fact 1 1 0 4\n", 1000))
	for _, head := range []string{"fact 0 1 0 4", "fact 9 1 0 4", "fact 1 0 0 4", "fact 1 61 0 4", "fact 1 1 -1 4", "fact 1 1 1073741824 4", "fact 01 1 0 4", "fact 1 +1 0 4", "fact 1 1 -0 4", "fact 1 1 0 04", "fact  1 1 0 4", "fact 1  1 0 4", "fact 1 1 0 4 ", "fact\t1 1 0 4", "fact1 1 0 4", "facts 1 1 0 4", "fact 1 1 a 4", "fact 1 1 1_0 4", "fact 1 1 0x1 4", "fact 1 1 1.0 4", "fact 1 1 0 5", "fact 1 1 0 1", "fact 1 1 0 2", "fact 1 1 0 3", "fact 1 1 0 6", "fact 1 1 0-0 4"} {
		malformed(t, head+"\npolicy 0 0 0 0 0 0 0\n")
	}
	for _, line := range []string{"policy 0 0 0 0 0 0", "policy 0 0 0 0 0 0 0 0", "policy 0 0 0 0 0 0 0 ", "policy 0 0 0 0 0 1 0", "policy 0 0 0 0 0 0 1001", "policy 00 0 0 0 0 0 0", "policy 0 0 -0 0 0 0 0", "policy 0 0 0 0 0 0 1-1", "policy", "policy ", "withdraw 3 1"} {
		malformed(t, "fact 1 1 0 4\n"+line+"\n")
	}
	for _, line := range []string{"withdraw 1 1", "withdraw 0 2", "withdraw 9 2", "withdraw 1 0", "withdraw 1 61", "withdraw 1 02", "withdraw +1 2", "withdraw 1", "withdraw 1 2 3", "withdraw 1 2 ", "withdraw  1 2", "withdraw 1-2", "withdraw"} {
		malformed(t, "fact 1 1 0 6\n"+line+"\n")
	}
	for _, lines := range []string{"", "look 1\n", "look 1 1", "look 0 1\n", "look 1 0\n", "look 1 01\n", "look 1 1 1\n", "look 1 1\n\n", "look 1 1\n0 0 0 ????????????", "look 1 1\n0 0 0 ???????????\n", "look 1 1\n0 0 0 ????????????x\n", "look 1 1\n0 43200 0 ????????????\n", "look 1 1\n00 0 0 ????????????\n", "look 1 1\n" + strings.Repeat("0 0 0 ????????????\n", 13), "look 1 1\n" + strings.Repeat("0 0 0 ????????????\n", 61), "0 0 0 ????????????\nlook 1 1\n"} {
		malformed(t, "fact 1 1 0 3\n"+lines)
	}
	for _, lines := range []string{"", "custody\n", "custody 4\n", "custody 0", "custody 00\n", "custody 0\n\n", "custody 0\nkey 1\nperson 1\n", "custody 0\nperson 2\nperson 1\n", "custody 0\npolicy 0 0 0 0 0 0 0\n", "key 1\ncustody 0\n"} {
		malformed(t, "fact 1 1 0 5\n"+lines)
	}
}

// TestP8_10MalformedLines takes lines from the texts of a setting and of a dial, doubles and exchanges them, and writes other ones.
func TestP8_10MalformedLines(t *testing.T) {
	for _, text := range richTexts()[:2] {
		lines := strings.SplitAfter(text, "\n")
		lines = lines[:len(lines)-1]
		for at, line := range lines {
			word, _, _ := strings.Cut(strings.TrimSuffix(line, "\n"), " ")
			rest := strings.Join(lines[at+1:], "")
			head := strings.Join(lines[:at], "")
			malformed(t, head+"\n"+line+rest, head+" "+line+rest, head+strings.Replace(line, " ", "  ", 1)+rest, head+strings.Replace(line, "\n", " \n", 1)+rest, head+word+"\n"+rest, head+word+" \n"+rest, head+"x"+line+rest, head+word+"x"+line[len(word):]+rest, head+strings.Replace(line, "\n", " 1\n", 1)+rest)
			switch word {
			case "key", "station", "room", "way", "door", "stop":
				continue // without one of these, or with one more, it can be the text of another fact
			}
			malformed(t, head+rest, head+line+line+rest)
			if at > 0 && at+1 < len(lines) {
				malformed(t, head+lines[at+1]+line+strings.Join(lines[at+2:], ""))
			}
		}
		// Numbers and spans that are right, but not written so.
		for _, x := range [][2]string{{" 1 ", " 01 "}, {" 1 ", " +1 "}, {"0-", "00-"}, {"-64800", "-064800"}, {"-41000", "-041000"}, {"21600-", "21600--"}, {"39000-", "+39000-"}, {" 2 ", " 2.0 "}, {" 3 ", " three "}} {
			if other := strings.Replace(text, x[0], x[1], 1); other != text {
				malformed(t, other)
			}
		}
	}
	for _, x := range [][2]string{
		{"ink 1 2 30", "ink 5 2 30"}, {"ink 1 2 30", "ink 1 2"}, {"ink 1 2 30", "ink 1 2 30 4"}, {"setting 12", "setting -1"}, {"setting 12", "setting 12 1"}, {"setting 12", "setting 1073741824"},
		{"key 2 0 56", "key 2 0"}, {"key 2 0 56", "key 1 0 56"}, {"key 2 0 56", "key 2 4 56"}, {"key 2 0 56", "key 2 0 0"}, {"key 2 0 56\n", ""},
		{"station mill 2 1", "station mill 2"}, {"station mill 2 1", "station mill 2 3"}, {"station mill 2 1", "station mill 4 1"}, {"station mill 2 1", "station gate 2 1"}, {"station mill 2 1", "station mill 1 1"}, {"station mill 2 1", "station  2 1"}, {"station mill 2 1", "station Mill 2 1"}, {"station mill 2 1", "station mill mill 1"},
		{"room loft 1\n", ""}, {"way 1 2 30 0 0\n", "way 1 2 30 0 0\nkey 9 0 1\n"}, {"way 1 2 30 0 0\n", "way 1 2 30 0 0\nstation dock 1099511627776 1\n"}, {"room gate -2\n", ""}, {"station loft 3 2\n", "key 4 0 1\nstation loft 3 2\n"},
	} {
		malformed(t, strings.Replace(settingText, x[0], x[1], 1))
	}
	for _, x := range [][2]string{
		{"dial 7 3 1 2 30000", "dial 0 3 1 2 30000"}, {"dial 7 3 1 2 30000", "dial 7 3 13 2 30000"}, {"dial 7 3 1 2 30000", "dial 7 3 1 24 30000"}, {"dial 7 3 1 2 30000", "dial 7 3 1 2"}, {"dial 7 3 1 2 30000", "dial 7 3 1 2 30000-30000"}, {"dial 7 3 1 2 30000", "dial 7 20001 1 2 30000"},
		{"crew 3 9 1099511627776", "crew 9 3"}, {"crew 3 9 1099511627776", "crew 1 2 3 4 5"}, {"crew 3 9 1099511627776", "crew 3 9 9"}, {"crew 3 9 1099511627776", "crew" + strings.Repeat(" 1", 1000)},
		{"session 4", "session 0"}, {"1-9", "1"}, {"1-9", "1-"}, {"1-9", "-9"}, {"1-9", "9-1"}, {"1-9", "1-9-9"}, {"1-9", "1 - 9"}, {"1-9 9000-11000", "1-9"}, {"1-9 9000-11000", "1-9 9000-11000 9000-11000"}, {"990000-1010000", "899999-1010000"},
		{"stop 60 3-30", "stop 50 3-30"}, {"stop 60 3-30", "stop 60 3"}, {"stop 60 3-30", "stop 60 3-36001"}, {"stop 60 3-30", "stop 60-60 3-30"}, {"stop 60 3-30", "stop 60 3-30 3-30"}, {"stop 60 3-30", "stop 60"}, {"stop 60 3-30\n", "stop 60 3-30\nstop 61 1-1\nstop 62 1-1\nstop 63 1-1\n"},
		{"order gate", "order  gate"}, {"order gate", "order (gate)"}, {"order gate", "order gate gate"}, {"order gate", "order Gate"}, {"order gate", "order 12"}, {"each(mill, loft)", "each (mill, loft)"}, {"each(mill, loft)", "each(mill,loft)"}, {"each(mill, loft)", "each(mill, mill)"}, {"within 5000", "within 05000"}, {"within 5000", "within 86400"}, {"after 60", "after 91"}, {"times 1 to 2", "times 1 to 2 after 0 to 86400"}, {"order gate", "order\ngate"},
	} {
		if text := strings.Replace(dialText, x[0], x[1], 1); text != dialText {
			malformed(t, text)
		} else {
			t.Error("no edit", x)
		}
	}
}

// TestP8_10Edits changes one byte of a text, or cuts it: what Decode takes is what Encode would write.
func TestP8_10Edits(t *testing.T) {
	taken := map[string]string{}
	for _, text := range richTexts() {
		for k := range len(text) + 1 {
			if part := text[:k]; !strings.HasSuffix(part, "\n") {
				malformed(t, part)
			}
			for _, x := range []string{"", "0", "1", "9", " ", "\n", "-", "+", "a", "#", "\xff"} {
				for _, s := range []string{text[:k] + x + text[k:], text[:k] + x + text[min(k+1, len(text)):]} {
					f, e := office.Decode(s)
					if e == api.OK {
						again, g := office.Encode(f)
						same(t, "Encode of Decode", again, g, s)
						taken[s] = text
						continue
					}
					none(t, "Decode", f, e, api.ErrForm)
				}
			}
		}
	}
	if len(taken) < 300 {
		t.Error("not an even test:", len(taken))
	}
}

func TestP8_10Errors(t *testing.T) {
	bad := []api.Fact{{}, rich(1, func(f *api.Fact) { f.Office = 9 }), rich(2, func(f *api.Fact) { f.Dial.Crew = nil }), rich(3, func(f *api.Fact) { f.Look.Reader = 0 }), rich(4, func(f *api.Fact) { f.Target.No = 1 }), rich(6, func(f *api.Fact) { f.Target = name(5, 2) })}
	for _, f := range bad {
		text, e := office.Encode(f)
		none(t, "Encode", text, e, api.ErrArg)
		for _, n := range []int{minInt, 0, 1, 300, 301} {
			page, e := office.Page(n, f)
			none(t, "Page", page, e, api.ErrArg)
		}
	}
	for _, n := range []int{minInt, -1, 0, api.MaxFacts + 1, maxInt} {
		page, e := office.Page(n, rich(6))
		none(t, "Page", page, e, api.ErrArg)
	}
}

// definedSum is the sum of a text, by the chapter; all its numbers are small.
func definedSum(text string) int {
	sum := 0
	for _, b := range []byte(text) {
		sum = (31*sum + int(b) + 1) % (1<<31 - 1)
	}
	return sum
}

func TestP8_10Pages(t *testing.T) {
	for _, f := range append(richFacts(), largeSetting()) {
		text, _ := office.Encode(f)
		for _, n := range []int{1, 9, 77, 299, 300} {
			got, e := office.Page(n, f)
			same(t, "Page", got, e, "page "+strconv.Itoa(n)+" "+strconv.Itoa(len(text))+" "+strconv.Itoa(definedSum(text))+"\n"+text)
		}
	}
	// The sum of the text of the withdrawal of the examples, computed by hand: of the first bytes it is 103, 31 * 103 + 98, ..
	got, e := office.Page(5, exampleFacts()[4])
	same(t, "Page", got, e, "page 5 30 790154378\nfact 2 2 80000 6\nwithdraw 3 1\n")
}
