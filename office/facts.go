package office

import (
	"cmp"

	"patrol/api"
	"patrol/clock"
	"patrol/custody"
	"patrol/dial"
	"patrol/order"
	"patrol/rates"
	"patrol/round"
)

// isIn reports whether an integer is from lo to hi.
func isIn(n, lo, hi int) bool { return lo <= n && n <= hi }

// isTime reports whether an integer is a time.
func isTime(t int) bool { return isIn(t, 0, api.MaxTime) }

// isID reports whether an integer can be an ID.
func isID(n int) bool { return isIn(n, 1, api.MaxID) }

// isOffice reports whether an integer is the number of an office.
func isOffice(n int) bool { return isIn(n, 1, api.MaxOffices) }

// isName reports whether a fact can have a name.
func isName(n api.Name) bool { return isOffice(n.Office) && isIn(n.No, 1, api.MaxNo) }

// nameOf returns the name of a fact.
func nameOf(f api.Fact) api.Name { return api.Name{Office: f.Office, No: f.No} }

// compareNames compares two names.
func compareNames(a, b api.Name) int {
	return cmp.Or(cmp.Compare(a.Office, b.Office), cmp.Compare(a.No, b.No))
}

// kind is how facts of a kind are treated, which all have the same field.
type kind struct {
	wipe  func(f *api.Fact)            // makes the field zero
	right func(f api.Fact) bool        // whether the field is valid
	lines func(f api.Fact) string      // the lines of a valid field
	read  func(p *parser, f *api.Fact) // reads the lines of the field
}

// kinds returns the kinds of facts.
func kinds() map[int]kind {
	return map[int]kind{
		api.FaSetting:  {func(f *api.Fact) { f.Setting = api.Setting{} }, isRightSetting, settingLines, readSetting},
		api.FaDial:     {func(f *api.Fact) { f.Dial = api.Dial{} }, isRightDial, dialLines, readDial},
		api.FaLook:     {func(f *api.Fact) { f.Look = api.Look{} }, isRightLook, lookLines, readLook},
		api.FaPolicy:   {func(f *api.Fact) { f.Policy = api.Policy{} }, isRightPolicy, policyLines, readPolicy},
		api.FaCustody:  {func(f *api.Fact) { f.Custody = api.Custody{} }, isRightCustody, custodyLines, readCustody},
		api.FaWithdraw: {func(f *api.Fact) { f.Target = api.Name{} }, isRightWithdrawal, withdrawalLines, readWithdrawal},
	}
}

// isRightSetting reports whether the setting of a fact is valid: whether it is that of a valid case, of which nothing else can be wrong.
func isRightSetting(f api.Fact) bool {
	s := f.Setting
	return isTime(s.Since) && round.Check(api.Case{
		House: s.House, Ink: s.Ink, Keys: s.Keys, Stations: s.Stations,
		Session: api.Session{ID: 1, Rate: api.Span{Lo: api.Million, Hi: api.Million}},
		Order:   api.Order{Kind: api.OrVisit, Names: []string{"a"}},
	}) == api.OK
}

// isRightDial reports whether the dial of a fact is valid.
func isRightDial(f api.Fact) bool {
	d := f.Dial
	if !isID(d.No) || !isIn(d.Start, 0, api.MaxRooms-1) || !isTime(d.Since) {
		return false
	}
	// Any kind of a verdict will do.
	if e, _ := rates.CheckRounds([]api.Round{{Night: d.Night, No: d.Round, Kind: api.VeDoubtful, Crew: d.Crew}}); e != api.OK {
		return false
	}
	_, e := order.Print(d.Order)
	return e == api.OK && clock.Check(api.Record{Session: d.Session}) == api.OK
}

// isRightLook reports whether the look of a fact is valid.
func isRightLook(f api.Fact) bool {
	if !isID(f.Look.Dial) || !isID(f.Look.Reader) || len(f.Look.Marks) > api.MaxStrikes {
		return false
	}
	for _, m := range f.Look.Marks {
		if dial.CheckMark(m) != api.OK {
			return false
		}
	}
	return true
}

// isRightPolicy reports whether the policy of a fact is valid.
func isRightPolicy(f api.Fact) bool {
	e, _ := rates.CheckPolicies([]api.Policy{f.Policy})
	return e == api.OK
}

// isRightCustody reports whether the custody book of a fact is valid.
func isRightCustody(f api.Fact) bool { return custody.Check(f.Custody) == api.OK }

// isRightWithdrawal reports whether the target of a fact is valid.
func isRightWithdrawal(f api.Fact) bool { return isName(f.Target) && f.Target != nameOf(f) }

// CheckFact returns the error of a fact.
func CheckFact(f api.Fact) api.Errno {
	k, is := kinds()[f.Kind]
	if !is || !isName(nameOf(f)) || !isTime(f.Known) || !k.right(f) {
		return api.ErrArg
	}
	rest := f
	k.wipe(&rest)
	if !Same(rest, api.Fact{Office: f.Office, No: f.No, Known: f.Known, Kind: f.Kind}) {
		return api.ErrArg
	}
	return api.OK
}

// CheckFacts returns the first error of a list of facts, and its index.
func CheckFacts(l []api.Fact) (api.Errno, int) {
	if len(l) > api.MaxFacts {
		return api.ErrLimit, -1
	}
	first := map[api.Name]int{}
	for k, f := range l {
		if e := CheckFact(f); e != api.OK {
			return e, k
		}
		before, is := first[nameOf(f)]
		if is && !Same(f, l[before]) {
			return api.ErrClash, k
		}
		if !is {
			first[nameOf(f)] = k
		}
	}
	return api.OK, -1
}
