package tribunal_test

import (
	"slices"
	"testing"

	"patrol/api"
	"patrol/office"
	"patrol/tribunal"
)

// sent is a letter of a model.
type sent struct {
	from, to int
	l        []api.Fact
}

// model is what a court should be: the facts of each office, in the order in which they came, and the letters.
type model struct {
	held [][]api.Fact
	post []sent
}

// own returns how many facts of an office are held, and the last Known of these.
func own(held []api.Fact, office int) (int, int) {
	n, last := 0, 0
	for _, f := range held {
		if f.Office == office {
			n, last = n+1, max(last, f.Known)
		}
	}
	return n, last
}

// write is P8.12 of the office id.
func (m *model) write(id int, f api.Fact) api.Errno {
	held := &m.held[id-1]
	if f.Office != 0 || f.No != 0 {
		return api.ErrArg
	}
	n, last := own(*held, id)
	if n >= api.MaxNo || len(*held) >= api.MaxFacts {
		return api.ErrLimit
	}
	f.Office, f.No = id, n+1
	if e := office.CheckFact(f); e != api.OK {
		return e
	}
	if f.Known < last {
		return api.ErrState
	}
	*held = append(*held, f)
	return api.OK
}

// take is P8.13 of the office id, for valid facts.
func (m *model) take(id int, l []api.Fact) api.Errno {
	held := &m.held[id-1]
	for _, f := range l {
		k := slices.IndexFunc(*held, func(x api.Fact) bool { return nameOf(x) == nameOf(f) })
		n, last := own(*held, f.Office)
		switch {
		case k >= 0 && !isEqual((*held)[k], f):
			return api.ErrClash
		case k >= 0 || f.No > n+1:
		case f.Known < last:
			return api.ErrClash
		case len(*held) >= api.MaxFacts:
			return api.ErrLimit
		default:
			*held = append(*held, f)
		}
	}
	return api.OK
}

// lacks returns the facts that one office holds, and another one does not, by their numbers.
func (m *model) lacks(from, to int) []api.Fact {
	return slices.DeleteFunc(sorted(m.held[from-1]), func(f api.Fact) bool {
		n, _ := own(m.held[to-1], f.Office)
		return f.No <= n
	})
}

// crash lets an office lose its last fact, if some bytes of its page are missing.
func (m *model) crash(id, missing int) api.Errno {
	if missing < 0 || missing > 65536 {
		return api.ErrArg
	}
	if n := len(m.held[id-1]); n > 0 && missing > 0 {
		m.held[id-1] = m.held[id-1][:n-1]
	}
	return api.OK
}

// remove removes a letter.
func (m *model) remove(n int) sent {
	x := m.post[n]
	m.post = slices.Concat(m.post[:n], m.post[n+1:])
	return x
}

// do plays an act.
func (m *model) do(a api.Act) (api.Reply, api.Errno) {
	isOffice := func(n int) bool { return n >= 1 && n <= len(m.held) }
	isLetter := a.N >= 0 && a.N < len(m.post)
	ofOffice := a.Kind == api.AcWrite || a.Kind == api.AcSend || a.Kind == api.AcCrash || a.Kind == api.AcAsk
	ofLetter := a.Kind == api.AcDeliver || a.Kind == api.AcCopy || a.Kind == api.AcLose
	if !ofOffice && !ofLetter || ofOffice && !isOffice(a.Office) {
		return api.Reply{}, api.ErrArg
	}
	if ofLetter && !isLetter {
		return api.Reply{}, api.ErrNone
	}
	e := api.OK
	switch a.Kind {
	case api.AcWrite:
		e = m.write(a.Office, a.Fact)
	case api.AcSend:
		if !isOffice(a.To) || a.To == a.Office {
			e = api.ErrArg
		} else if len(m.post) >= 40 {
			e = api.ErrLimit
		} else {
			m.post = append(m.post, sent{a.Office, a.To, m.lacks(a.Office, a.To)})
		}
	case api.AcDeliver:
		x := m.remove(a.N)
		e = m.take(x.to, x.l)
	case api.AcCopy:
		if len(m.post) >= 40 {
			e = api.ErrLimit
		} else {
			m.post = append(m.post, m.post[a.N])
		}
	case api.AcLose:
		m.remove(a.N)
	case api.AcCrash:
		e = m.crash(a.Office, a.N)
	case api.AcAsk:
		return tribunal.Answer(sorted(m.held[a.Office-1]), a.Ask), api.OK
	}
	return api.Reply{}, e
}

// isLike checks that a court is what it should be.
func (m *model) isLike(t *testing.T, what string, c *tribunal.Court) {
	t.Helper()
	for k, held := range m.held {
		got, e := c.Facts(k + 1)
		same(t, what+": Facts", got, e, sorted(held))
	}
	var letters []api.Letter
	for _, x := range m.post {
		letters = append(letters, api.Letter{From: x.from, To: x.to, Facts: len(x.l)})
	}
	same(t, what+": Post", c.Post(), api.OK, letters)
}

// trial is a court with its model.
type trial struct {
	*tribunal.Court
	model
}

func newTrial(t *testing.T, offices int) *trial {
	t.Helper()
	c, e := tribunal.New(offices)
	if e != api.OK {
		t.Fatal("New", offices, e)
	}
	x := &trial{c, model{held: make([][]api.Fact, offices)}}
	x.isLike(t, "a new court", c)
	return x
}

// do plays an act in both, and compares them.
func (x *trial) do(t *testing.T, a api.Act) api.Errno {
	t.Helper()
	r, e := x.Do(a)
	want, f := x.model.do(a)
	if !isEqual(r, want) || e != f {
		t.Errorf("Do: %s: %s %d, not %s %d", short(a), short(r), e, short(want), f)
	}
	x.isLike(t, "behind an act", x.Court)
	return e
}

// does plays acts that have an error, or none.
func (x *trial) does(t *testing.T, want api.Errno, l ...api.Act) {
	t.Helper()
	for _, a := range l {
		if e := x.do(t, a); e != want {
			t.Errorf("Do: %s: %d, not %d", short(a), e, want)
		}
	}
}

// The acts of each kind.
func write(office int, f api.Fact) api.Act {
	return api.Act{Kind: api.AcWrite, Office: office, Fact: f}
}
func send(office, to int) api.Act { return api.Act{Kind: api.AcSend, Office: office, To: to} }
func deliver(n int) api.Act       { return api.Act{Kind: api.AcDeliver, N: n} }
func double(n int) api.Act        { return api.Act{Kind: api.AcCopy, N: n} }
func lose(n int) api.Act          { return api.Act{Kind: api.AcLose, N: n} }
func crash(office, n int) api.Act { return api.Act{Kind: api.AcCrash, Office: office, N: n} }
func ask(office int, q api.Question) api.Act {
	return api.Act{Kind: api.AcAsk, Office: office, Ask: q}
}

// cheap returns a small fact to be written.
func cheap(known, base int) api.Fact { return policyFact(0, 0, known, api.Policy{Base: base}) }

func TestP9_7(t *testing.T) {
	for n := 1; n <= api.MaxOffices; n++ {
		x := newTrial(t, n)
		x.does(t, api.OK, write(n, cheap(5, 1)), write(1, cheap(6, 2)))
		x.does(t, api.ErrArg, write(n+1, cheap(5, 1)))
	}
	for _, n := range []int{minInt, -1, 0, api.MaxOffices + 1, maxInt} {
		if c, e := tribunal.New(n); c != nil || e != api.ErrArg {
			t.Error("New", n, c, e)
		}
	}
	// Courts have nothing to do with each other.
	a, b := newTrial(t, 2), newTrial(t, 2)
	a.does(t, api.OK, write(1, cheap(5, 1)), send(1, 2))
	b.isLike(t, "another court", b.Court)
}

func TestP9_8Write(t *testing.T) {
	x := newTrial(t, 3)
	for k, f := range richFacts() {
		f.Office, f.No, f.Known = 0, 0, 10+k
		x.does(t, api.OK, write(2, f))
	}
	got, e := x.Facts(2)
	if len(got) != 6 || e != api.OK || nameOf(got[5]) != name(2, 6) {
		t.Error("Facts", got, e)
	}
	x.does(t, api.ErrArg, write(2, policyFact(2, 7, 20, api.Policy{})), write(2, policyFact(0, 7, 20, api.Policy{})), write(2, policyFact(0, 0, 20, api.Policy{Bonus: -1})), write(2, withdrawal(0, 0, 20, name(2, 7))), write(2, api.Fact{}))
	x.does(t, api.ErrState, write(2, cheap(14, 1)))
	for range api.MaxNo - 6 {
		x.does(t, api.OK, write(2, cheap(15, 1)))
	}
	x.does(t, api.ErrLimit, write(2, cheap(15, 1)), write(2, cheap(14, -1)))
	x.does(t, api.ErrArg, write(2, policyFact(2, 61, 20, api.Policy{})))
}

func TestP9_8Send(t *testing.T) {
	x := newTrial(t, 3)
	x.does(t, api.OK, send(1, 2), write(1, cheap(5, 1)), send(1, 2), write(1, cheap(5, 2)), send(1, 2), send(2, 1))
	same(t, "Post", x.Post(), api.OK, []api.Letter{{From: 1, To: 2}, {From: 1, To: 2, Facts: 1}, {From: 1, To: 2, Facts: 2}, {From: 2, To: 1}})
	// A letter is what was lacking when it was sent; the receiver counts that can have got more.
	x.does(t, api.OK, deliver(2), send(1, 2), write(3, cheap(0, 3)), send(3, 1), deliver(4), send(1, 2))
	same(t, "Post", x.Post(), api.OK, []api.Letter{{From: 1, To: 2}, {From: 1, To: 2, Facts: 1}, {From: 2, To: 1}, {From: 1, To: 2}, {From: 1, To: 2, Facts: 1}})
	x.does(t, api.ErrArg, send(1, 1), send(1, 0), send(1, 4), send(1, -1), send(1, maxInt), send(1, minInt), send(0, 1), send(4, 1), send(-1, 2))
	for len(x.Post()) < api.MaxPost {
		x.does(t, api.OK, send(3, 2))
	}
	x.does(t, api.ErrLimit, send(1, 2), send(3, 1), double(0), double(39))
	x.does(t, api.ErrArg, send(1, 1), send(1, 4), send(0, 1))
	x.does(t, api.ErrNone, double(40), double(-1), lose(40), deliver(40))
	x.does(t, api.OK, lose(0), double(1))
	x.does(t, api.ErrLimit, send(1, 2), double(39))
}

func TestP9_8Letters(t *testing.T) {
	x := newTrial(t, 4)
	x.does(t, api.ErrNone, deliver(0), double(0), lose(0), deliver(-1), double(-1), lose(-1))
	for k := range 3 {
		x.does(t, api.OK, write(1, cheap(k, k)), send(1, 2), send(1, 3))
	}
	x.does(t, api.ErrNone, deliver(6), double(6), lose(6), deliver(minInt), double(maxInt), lose(maxInt))
	// Whatever is delivered late, twice, or with a gap: 2 holds each fact once.
	x.does(t, api.OK, double(4), deliver(2), deliver(5), deliver(0), deliver(3), double(0), lose(0))
	got, e := x.Facts(2)
	want, f := x.Facts(1)
	same(t, "Facts", got, max(e, f), want)
	// The acts of letters do not look at the office.
	x.does(t, api.OK, api.Act{Kind: api.AcCopy, Office: -1, To: 99}, api.Act{Kind: api.AcLose, Office: 77}, api.Act{Kind: api.AcDeliver, Office: maxInt, Fact: api.Fact{Kind: 99}})
	x.does(t, api.ErrArg, api.Act{}, api.Act{Kind: 8, Office: 1}, api.Act{Kind: -1, Office: 1}, api.Act{Kind: minInt}, api.Act{Kind: maxInt, Office: 1, N: -1})
}

// TestP9_8Deliver delivers letters whose facts clash, since an office lost a fact, and wrote another one under its name.
func TestP9_8Deliver(t *testing.T) {
	x := newTrial(t, 3)
	x.does(t, api.OK, write(1, cheap(5, 1)), write(1, cheap(6, 2)), send(1, 2), deliver(0), crash(1, 1), write(1, cheap(6, 3)), write(1, cheap(6, 4)), write(3, cheap(0, 1)), send(3, 1), deliver(0), send(1, 2), double(0))
	same(t, "Post", x.Post(), api.OK, []api.Letter{{From: 1, To: 2, Facts: 2}, {From: 1, To: 2, Facts: 2}})
	x.does(t, api.OK, deliver(0), deliver(0))
	x.does(t, api.OK, crash(1, 9), crash(1, 9), crash(1, 9), send(2, 1))
	same(t, "Post", x.Post(), api.OK, []api.Letter{{From: 2, To: 1, Facts: 3}})
	x.does(t, api.OK, write(1, cheap(5, 9)))
	// The letter is removed all the same, and the facts before the one that clashes are taken.
	x.does(t, api.ErrClash, deliver(0))
	same(t, "Post", x.Post(), api.OK, nil)
	// A fact that is too early for what follows it clashes, too.
	y := newTrial(t, 2)
	y.does(t, api.OK, write(1, cheap(5, 1)), send(1, 2), deliver(0), write(1, cheap(6, 2)), send(1, 2), crash(2, 1), crash(1, 1), crash(1, 1), write(1, cheap(7, 3)), send(1, 2), deliver(1))
	same(t, "Post", y.Post(), api.OK, []api.Letter{{From: 1, To: 2, Facts: 1}})
	y.does(t, api.ErrClash, deliver(0))
	// An office that is full takes no more.
	z := newTrial(t, api.MaxOffices)
	for id := 2; id <= 7; id++ {
		for k := range 50 {
			z.does(t, api.OK, write(id, cheap(k, id)))
		}
		z.does(t, api.OK, send(id, 1), deliver(0))
	}
	z.does(t, api.OK, write(8, cheap(1, 1)), send(8, 1))
	z.does(t, api.ErrLimit, deliver(0), write(1, cheap(1, 1)))
	z.does(t, api.OK, crash(1, 1), write(8, cheap(1, 1)), send(8, 1))
	z.does(t, api.ErrLimit, deliver(0))
	z.does(t, api.OK, ask(1, balance(60, api.AcHouse, 0, 9)), crash(1, 5), write(1, cheap(1, 1)))
	z.does(t, api.ErrLimit, write(1, cheap(1, 1)))
}

func TestP9_8Crash(t *testing.T) {
	x := newTrial(t, 2)
	x.does(t, api.OK, crash(1, 0), crash(1, 1), crash(2, api.MaxPage))
	x.does(t, api.ErrArg, crash(1, -1), crash(1, api.MaxPage+1), crash(1, minInt), crash(1, maxInt), crash(0, 1), crash(3, 1), crash(3, -1))
	for k, f := range richFacts() {
		f = unnamed(f)
		f.Known = 10 + k
		x.does(t, api.OK, write(1, f))
	}
	x.does(t, api.OK, write(2, cheap(1, 1)), send(2, 1), deliver(0))
	// The last fact that came is lost, whoever wrote it; then the one before it.
	x.does(t, api.OK, crash(1, 0), crash(1, 1))
	got, e := x.Facts(1)
	if len(got) != 6 || e != api.OK || got[5].Office != 1 {
		t.Error("Facts", got, e)
	}
	x.does(t, api.OK, send(2, 1), deliver(0), crash(1, 0), crash(1, api.MaxPage), crash(1, 7), crash(1, 700), crash(1, 0))
	if got, e := x.Facts(1); len(got) != 4 || e != api.OK {
		t.Error("Facts", got, e)
	}
	// Letters that are on their way stay, and what was lost can be written anew, as another fact.
	x.does(t, api.OK, send(1, 2), crash(1, 1), write(1, cheap(13, 1)), deliver(0), send(1, 2), deliver(0), crash(2, 20))
}

// TestP9_8Torn lets an office crash with each number of missing bytes.
func TestP9_8Torn(t *testing.T) {
	page, _ := office.Page(2, policyFact(1, 2, 6, api.Policy{Base: 2}))
	for n := range len(page) + 3 {
		x := newTrial(t, 1)
		x.does(t, api.OK, write(1, cheap(5, 1)), write(1, cheap(6, 2)), crash(1, n), write(1, cheap(7, 3)))
		got, e := x.Facts(1)
		if want := 2 + 1/(n+1); len(got) != want || e != api.OK {
			t.Error("Facts", n, got, e)
		}
	}
}

func TestP9_8Ask(t *testing.T) {
	x := newTrial(t, 4)
	for _, f := range fullFacts() {
		if f.Office == 1 {
			x.does(t, api.OK, write(1, unnamed(f)))
		}
	}
	x.does(t, api.OK, write(2, unnamed(exampleFacts()[2])), send(1, 2), deliver(0), send(2, 3), deliver(0))
	for _, q := range append(aboutExamples(), api.Question{}, verdict(4, 7), api.Question{Kind: 9, Known: -1}) {
		x.does(t, api.OK, ask(1, q), ask(2, q), ask(3, q), ask(4, q))
		x.does(t, api.ErrArg, ask(0, q), ask(5, q), ask(-1, q))
	}
	r, e := x.Do(ask(2, when(60000, 7, "mill")))
	same(t, "the office 2", r, e, api.Reply{Span: span(31099, 31101)})
	r, e = x.Do(ask(1, when(60000, 7, "mill")))
	same(t, "the office 1, which does not know the look", r, e, api.Reply{Errno: api.ErrState})
	r, e = x.Do(ask(4, when(60000, 7, "mill")))
	same(t, "the office 4, which knows nothing", r, e, api.Reply{Errno: api.ErrNone})
	r, e = x.Do(ask(2, when(60000, 7, "Mill")))
	same(t, "a question that is not valid", r, e, api.Reply{Errno: api.ErrArg})
}

func TestP9_9(t *testing.T) {
	x := newTrial(t, 3)
	x.does(t, api.OK, write(2, cheap(5, 1)), write(1, cheap(6, 2)), send(1, 2), deliver(0), send(2, 3), write(1, cheap(7, 3)))
	for _, n := range []int{minInt, -1, 0, 4, maxInt} {
		got, e := x.Facts(n)
		none(t, "Facts", got, e, api.ErrArg)
	}
	// In the order of their names, not in that in which they came.
	got, e := x.Facts(2)
	same(t, "Facts", got, e, facts(policyFact(1, 1, 6, api.Policy{Base: 2}), policyFact(2, 1, 5, api.Policy{Base: 1})))
	for _, q := range []api.Question{balance(9, api.AcHouse, 0, 1), balance(4, api.AcHouse, 0, 1), rests(9, 1, 1), verdict(9, 7), amend(9, 5, 0, 3)} {
		var want []api.Reply
		for k := range 3 {
			l, _ := x.Facts(k + 1)
			want = append(want, tribunal.Answer(l, q))
		}
		got, e := x.Ask(q)
		same(t, "Ask", got, e, want)
	}
	got2, e := x.Ask(balance(9, api.AcInsurer, 0, 0))
	same(t, "Ask", got2, e, []api.Reply{{Pence: 3}, {Pence: 2}, {}})
	for _, q := range []api.Question{{}, verdict(-1, 7), verdict(5, 0), balance(5, 0, 1, 1), {Kind: 9}} {
		got, e := x.Ask(q)
		none(t, "Ask", got, e, api.ErrArg)
	}
	x.isLike(t, "when it was asked", x.Court)
}

func TestP9_10(t *testing.T) {
	l := []api.Act{
		write(1, unnamed(exampleFacts()[0])), send(1, 3), write(1, unnamed(exampleFacts()[1])), write(4, cheap(1, 1)), ask(1, verdict(5, 7)), double(1), double(0), deliver(0), crash(3, -1), ask(3, verdict(5, 7)), ask(3, verdict(5, 0)), lose(0), lose(0), write(1, cheap(4, 1)), {},
	}
	unread := api.Reply{Judged: judgedAs(api.DiUnread, 0, api.OK)}
	replies, errnos, e := tribunal.Run(3, l)
	same(t, "Run: replies", replies, e, []api.Reply{{}, {}, {}, {}, unread, {}, {}, {}, {}, {Errno: api.ErrNone}, {Errno: api.ErrArg}, {}, {}, {}, {}})
	same(t, "Run: errors", errnos, e, []api.Errno{0, 0, 0, api.ErrArg, 0, api.ErrNone, 0, 0, api.ErrArg, 0, 0, 0, api.ErrNone, api.ErrState, api.ErrArg})
	// It is the same in a court of one's own.
	x := newTrial(t, 3)
	for k, a := range l {
		r, f := x.Do(a)
		if !isEqual(r, replies[k]) || f != errnos[k] {
			t.Error("Do", k, r, f)
		}
	}
	replies, errnos, e = tribunal.Run(1, nil)
	if len(replies) != 0 || len(errnos) != 0 || e != api.OK {
		t.Error("Run of no acts", replies, errnos, e)
	}
	replies, errnos, e = tribunal.Run(8, make([]api.Act, api.MaxActs))
	if len(replies) != api.MaxActs || len(errnos) != api.MaxActs || e != api.OK || slices.Min(errnos) != api.ErrArg {
		t.Error("Run of as many acts as there may be", replies, errnos, e)
	}
	for _, x := range []struct {
		offices, acts int
		want          api.Errno
	}{{0, 0, api.ErrArg}, {-1, 5, api.ErrArg}, {9, 80, api.ErrArg}, {0, 81, api.ErrArg}, {9, 1000, api.ErrArg}, {1, 81, api.ErrLimit}, {8, 1000, api.ErrLimit}} {
		replies, errnos, e := tribunal.Run(x.offices, make([]api.Act, x.acts))
		none(t, "Run", replies, e, x.want)
		none(t, "Run", errnos, e, x.want)
	}
}

// act returns an act, of which most can be played in a court with some offices and letters.
func (c *chance) act(offices, letters, clock int) api.Act {
	id, to := c.from(1, offices), c.from(1, offices)
	a := api.Act{Kind: c.pick(1, 1, 1, 1, 2, 2, 2, 2, 2, 3, 3, 3, 3, 3, 4, 4, 5, 6, 6, 7, 7), Office: id, To: to, N: c.n(letters + 1)}
	switch a.Kind {
	case api.AcWrite:
		a.Fact = unnamed(c.fact(name(8, 60), c.names(3)))
		a.Fact.Known = clock + c.pick(0, 0, 0, 1, -2)
	case api.AcCrash:
		a.N = c.pick(0, 1, 2, 30, 100, 1000, api.MaxPage)
	case api.AcAsk:
		a.Ask = c.question(c.from(api.QuVerdict, api.QuRests))
		a.Ask.Known = clock
	}
	if c.n(20) == 0 {
		x := []*int{&a.Kind, &a.Office, &a.To, &a.N}[c.n(4)]
		*x = c.pick(-1, 0, 8, 9, minInt, maxInt, api.MaxPage+1)
	}
	return a
}

// TestP9_8Chance plays acts that chance makes, in a court and in its model, and once more by Run.
func TestP9_8Chance(t *testing.T) {
	c := chance(98)
	kinds := map[int]int{}
	errors := map[api.Errno]int{}
	for range 60 {
		x := newTrial(t, c.from(1, 5))
		var acts []api.Act
		var errnos []api.Errno
		for k := range api.MaxActs {
			a := c.act(len(x.held), len(x.post), 3+k/10)
			e := x.do(t, a)
			acts, errnos = append(acts, a), append(errnos, e)
			errors[e]++
			if e == api.OK {
				kinds[a.Kind]++
			}
		}
		replies, got, e := tribunal.Run(len(x.held), acts)
		same(t, "Run", got, e, errnos)
		if len(replies) != len(acts) {
			t.Error("Run", len(replies))
		}
	}
	for kind := api.AcWrite; kind <= api.AcAsk; kind++ {
		if kinds[kind] < 60 {
			t.Error("few acts", kinds)
		}
	}
	if min(errors[api.ErrArg], errors[api.ErrState], errors[api.ErrNone]) < 30 || errors[api.ErrClash] < 5 {
		t.Error("few errors", errors)
	}
}
