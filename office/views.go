package office

import (
	"cmp"
	"iter"
	"maps"
	"slices"

	"patrol/api"
	"patrol/dial"
	"patrol/round"
)

// standing yields the facts of a list that stand at a time, each once.
func standing(l []api.Fact, known int) iter.Seq[api.Fact] {
	return func(yield func(api.Fact) bool) {
		withdrawn, done := map[api.Name]bool{}, map[api.Name]bool{}
		for _, f := range l {
			if f.Kind == api.FaWithdraw && f.Known <= known {
				withdrawn[f.Target] = true
			}
		}
		for _, f := range l {
			name := nameOf(f)
			if f.Known > known || done[name] || f.Kind != api.FaWithdraw && withdrawn[name] {
				continue
			}
			done[name] = true
			if !yield(f) {
				return
			}
		}
	}
}

// isLater reports whether a fact is the later one of two.
func isLater(f, other api.Fact) bool {
	return cmp.Or(cmp.Compare(f.Known, other.Known), compareNames(nameOf(f), nameOf(other))) > 0
}

// latest returns, for each key that a function tells of some facts, the latest one of those of which it tells this key; it can tell that a fact has none.
func latest[K comparable](facts iter.Seq[api.Fact], key func(f api.Fact) (K, bool)) map[K]api.Fact {
	m := map[K]api.Fact{}
	for f := range facts {
		k, is := key(f)
		if !is {
			continue
		}
		if other, had := m[k]; !had || isLater(f, other) {
			m[k] = f
		}
	}
	return m
}

// look is by whom a dial was read.
type look struct{ dial, reader int }

// view is the latest facts that stand at a time: dials by No, settings and policies by Since, looks, and the custody book by its Kind.
type view struct {
	dials, settings, policies, books map[int]api.Fact
	looks                            map[look]api.Fact
}

// newView returns the view of a list of facts at a time.
func newView(l []api.Fact, known int) view {
	facts := standing(l, known)
	return view{
		dials:    latest(facts, func(f api.Fact) (int, bool) { return f.Dial.No, f.Kind == api.FaDial }),
		settings: latest(facts, func(f api.Fact) (int, bool) { return f.Setting.Since, f.Kind == api.FaSetting }),
		policies: latest(facts, func(f api.Fact) (int, bool) { return f.Policy.Since, f.Kind == api.FaPolicy }),
		looks:    latest(facts, func(f api.Fact) (look, bool) { return look{f.Look.Dial, f.Look.Reader}, f.Kind == api.FaLook }),
		books:    latest(facts, func(f api.Fact) (int, bool) { return f.Kind, f.Kind == api.FaCustody }),
	}
}

// check returns the error of a list of facts, or else ErrArg unless some integers are times.
func check(l []api.Fact, times ...int) api.Errno {
	if e, _ := CheckFacts(l); e != api.OK {
		return e
	}
	for _, t := range times {
		if !isTime(t) {
			return api.ErrArg
		}
	}
	return api.OK
}

// Standing returns the names of the facts that stand at a time.
func Standing(l []api.Fact, known int) ([]api.Name, api.Errno) {
	if e := check(l, known); e != api.OK {
		return nil, e
	}
	var names []api.Name
	for f := range standing(l, known) {
		names = append(names, nameOf(f))
	}
	slices.SortFunc(names, compareNames)
	return names, api.OK
}

// file is the facts on which the verdict on a dial rests: the dial, its setting (a zero fact if there is none), and its looks, by increasing Reader.
type file struct {
	dial, setting api.Fact
	looks         []api.Fact
}

// setting returns the fact of the setting that is in force at a time; a zero fact if there is none.
func (v view) setting(t int) api.Fact {
	last := -1
	for since := range v.settings {
		if since <= t {
			last = max(last, since)
		}
	}
	return v.settings[last]
}

// file returns the file of the dial with a number; false if there is no such dial.
func (v view) file(no int) (file, bool) {
	f, is := v.dials[no]
	if !is {
		return file{}, false
	}
	x := file{dial: f, setting: v.setting(f.Dial.Session.In.Lo)}
	for key, f := range v.looks {
		if key.dial == no {
			x.looks = append(x.looks, f)
		}
	}
	slices.SortFunc(x.looks, func(a, b api.Fact) int { return cmp.Compare(a.Look.Reader, b.Look.Reader) })
	return x, true
}

// marks returns what is known of the marks by all looks, of which there is one at least; false if they contradict each other.
func (x file) marks() ([]api.Mark, bool) {
	marks := slices.Clone(x.looks[0].Look.Marks)
	for _, f := range x.looks[1:] {
		if len(f.Look.Marks) != len(marks) {
			return nil, false
		}
		for k, m := range f.Look.Marks {
			sharp, e := dial.Sharpen(marks[k], m)
			if e != api.OK {
				return nil, false
			}
			marks[k] = sharp
		}
	}
	return marks, true
}

// open returns the case of a dial, and api.DiJudged; another state if there is no case. The case shares memory with the facts.
func (x file) open() (api.Case, int) {
	if x.setting.Kind != api.FaSetting {
		return api.Case{}, api.DiBare
	}
	if len(x.looks) == 0 {
		return api.Case{}, api.DiUnread
	}
	marks, is := x.marks()
	if !is {
		return api.Case{}, api.DiDisputed
	}
	s, d := x.setting.Setting, x.dial.Dial
	return api.Case{
		House: s.House, Ink: s.Ink, Keys: s.Keys, Stations: s.Stations,
		Session: d.Session, Start: d.Start, Since: d.Since, Order: d.Order,
		Marks: marks,
	}, api.DiJudged
}

// copied returns the file with memory of its own, but for its looks.
func (x file) copied() file {
	x.dial, x.setting = copyOf(x.dial), copyOf(x.setting)
	return x
}

// Case returns the case of a dial, as it is known at a time.
func Case(l []api.Fact, known, dial int) (api.Case, api.Errno) {
	if e := check(l, known); e != api.OK {
		return api.Case{}, e
	}
	x, is := newView(l, known).file(dial)
	if !is {
		return api.Case{}, api.ErrNone
	}
	c, state := x.copied().open()
	switch state {
	case api.DiBare, api.DiUnread:
		return api.Case{}, api.ErrState
	case api.DiDisputed:
		return api.Case{}, api.ErrClash
	}
	if e := round.Check(c); e != api.OK {
		return api.Case{}, e
	}
	return c, api.OK
}

// judge returns what follows for the dial.
func (x file) judge() api.Judged {
	d := x.dial.Dial
	j := api.Judged{No: d.No, Night: d.Night, Round: d.Round}
	c, state := x.open()
	j.State = state
	if state != api.DiJudged {
		return j
	}
	// The errors of Certify are those of Measure.
	kind, e := round.Certify(c)
	if e != api.OK {
		j.State, j.Errno = api.DiWrong, e
		return j
	}
	j.Kind = kind
	return j
}

// Judge returns what follows for a dial, as it is known at a time.
func Judge(l []api.Fact, known, dial int) (api.Judged, api.Errno) {
	if e := check(l, known); e != api.OK {
		return api.Judged{}, e
	}
	x, is := newView(l, known).file(dial)
	if !is {
		return api.Judged{}, api.ErrNone
	}
	return x.judge(), api.OK
}

// files yields the files of all dials, by increasing No.
func (v view) files() iter.Seq[file] {
	return func(yield func(file) bool) {
		for _, no := range slices.Sorted(maps.Keys(v.dials)) {
			x, _ := v.file(no)
			if !yield(x) {
				return
			}
		}
	}
}

// View returns what follows for all dials, as it is known at a time.
func View(l []api.Fact, known int) ([]api.Judged, api.Errno) {
	if e := check(l, known); e != api.OK {
		return nil, e
	}
	var all []api.Judged
	for x := range newView(l, known).files() {
		all = append(all, x.judge())
	}
	return all, api.OK
}
