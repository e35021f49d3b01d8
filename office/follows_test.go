package office_test

import (
	"slices"
	"testing"

	"patrol/api"
	"patrol/office"
	"patrol/rates"
)

// answer is what a call returned.
type answer struct {
	got any
	e   api.Errno
}

// pair makes one value of the two results of a call.
func pair[T any](got T, e api.Errno) answer { return answer{got, e} }

// answers returns what the functions of the section Views return, but for Standing.
func answers(l []api.Fact, known, before int, ns []api.Name) []answer {
	nights := span(0, 9)
	all := []answer{
		pair(office.View(l, known)), pair(office.Rounds(l, known)), pair(office.Policies(l, known)), pair(office.Ledger(l, known, nights)),
		pair(office.Amend(l, before, known, nights)), pair(office.Book(l, known)),
	}
	for no := range 6 {
		all = append(all, pair(office.Case(l, known, no)), pair(office.Judge(l, known, no)))
	}
	for _, n := range ns {
		all = append(all, pair(office.Rests(l, known, n)))
	}
	return all
}

// sameAnswers checks that two lists of facts have the same answers.
func sameAnswers(t *testing.T, what string, got, want []answer) {
	t.Helper()
	for k := range want {
		if !isEqual(got[k].got, want[k].got) || got[k].e != want[k].e {
			t.Errorf("%s: answer %d: %s %d, not %s %d", what, k, short(got[k].got), got[k].e, short(want[k].got), want[k].e)
		}
	}
}

// namesOf returns the names of facts.
func namesOf(l []api.Fact) []api.Name {
	var ns []api.Name
	for _, f := range l {
		ns = append(ns, nameOf(f))
	}
	return ns
}

func TestP8_15(t *testing.T) {
	tries(15, 60, func(c *chance, l []api.Fact) {
		known, before := c.n(lastKnown+1), c.n(lastKnown+1)
		want := answers(l, known, before, namesOf(l))
		standing, e := office.Standing(l, known)
		for range 3 {
			other := c.repeated(l)
			sameAnswers(t, "in another order", answers(other, known, before, namesOf(l)), want)
			got, f := office.Standing(other, known)
			same(t, "Standing in another order", got, max(e, f), standing)
		}
	})
}

func TestP8_16(t *testing.T) {
	tries(16, 80, func(c *chance, l []api.Fact) {
		known, before := c.n(lastKnown), c.n(lastKnown)
		var now []api.Fact
		for _, f := range l {
			if f.Known <= max(known, before) {
				now = append(now, f)
			}
		}
		sameAnswers(t, "with what becomes known later", answers(l, known, before, namesOf(l)), answers(now, known, before, namesOf(l)))
		want, e := office.Standing(now, known)
		got, f := office.Standing(l, known)
		same(t, "Standing with what becomes known later", got, max(e, f), want)
	})
}

func TestP8_17(t *testing.T) {
	withdrawn := 0
	tries(17, 60, func(c *chance, l []api.Fact) {
		target := l[c.n(len(l))]
		if target.Kind == api.FaWithdraw {
			return
		}
		withdrawn++
		w := withdrawal(8, 60, c.n(lastKnown+1), nameOf(target))
		known := c.from(w.Known, lastKnown)
		all, less := with(l, w), without(l, nameOf(target))
		sameAnswers(t, "when a fact is withdrawn", answers(all, known, known, namesOf(less)), answers(less, known, known, namesOf(less)))
		got, e := office.Standing(all, known)
		want, f := office.Standing(less, known)
		same(t, "Standing when a fact is withdrawn", got, max(e, f), append(want, nameOf(w)))
		// Rests names all dials for which something else follows.
		if target.Known > known {
			return
		}
		var rest []int
		for no := 1; no <= 5; no++ {
			a, e := office.Judge(l, known, no)
			b, f := office.Judge(all, known, no)
			if a != b || e != f {
				rest = append(rest, no)
			}
		}
		dials, e := office.Rests(l, known, nameOf(target))
		same(t, "Rests", dials, e, rest)
	})
	if withdrawn < 40 {
		t.Error("not an even test:", withdrawn)
	}
}

func TestP8_18(t *testing.T) {
	var kinds [5][5]int
	c := chance(18)
	for range 2000 {
		l := facts(settingFact(1, 1, 0, c.setting()), dialFact(1, 2, 0, c.dial()))
		no := l[1].Dial.No
		l[0].Setting.Since = 0
		for reader := range c.from(1, 2) {
			l = append(l, lookFact(2, reader+1, 0, no, 2*reader+2, c.marks()...))
		}
		a, e := office.Judge(l, 0, no)
		b, f := office.Judge(with(l, lookFact(8, 60, 0, no, c.pick(1, 3, 5, api.MaxID), c.marks()...)), 0, no)
		if max(e, f) != api.OK {
			t.Error("Judge", e, f)
		}
		kinds[a.Kind][b.Kind]++
	}
	for _, sure := range []int{api.VeCertified, api.VeFailed} {
		for _, kind := range []int{api.VeCertified, api.VeDoubtful, api.VeFailed} {
			if kind != sure && kinds[sure][kind] > 0 {
				t.Error("verdicts that changed:", kinds)
			}
		}
		if kinds[sure][sure] < 20 || kinds[api.VeDoubtful][sure] < 5 {
			t.Error("not an even test:", kinds)
		}
	}
}

func TestP8_19(t *testing.T) {
	amended := 0
	tries(19, 200, func(c *chance, l []api.Fact) {
		before, after, nights := c.n(lastKnown+1), c.n(lastKnown+1), span(0, 4)
		old, e := office.Ledger(l, before, nights)
		more, f := office.Amend(l, before, after, nights)
		now, g := office.Ledger(l, after, nights)
		if max(e, f, g) != api.OK {
			t.Error(e, f, g)
		}
		for _, account := range []int{api.AcHouse, api.AcInsurer, 3, 4, 9} {
			got, e := rates.Balance(slices.Concat(old, more), account)
			want, f := rates.Balance(now, account)
			same(t, "the balance", got, max(e, f), want)
		}
		amended += len(more)
	})
	if amended < 200 {
		t.Error("not an even test:", amended)
	}
}

func TestP8_20(t *testing.T) {
	texts := map[string]api.Fact{}
	tries(20, 100, func(c *chance, l []api.Fact) {
		for _, f := range l {
			text, e := office.Encode(f)
			got, g := office.Decode(text)
			same(t, "Decode of Encode", got, max(e, g), f)
			if other, is := texts[text]; is && !isEqual(f, other) {
				t.Error("two facts with one text", text)
			}
			texts[text] = f
			again, g := office.Encode(got)
			same(t, "Encode of Decode", again, max(e, g), text)
		}
	})
	// A page of which bytes at the end are missing is not whole: it is left out.
	for _, f := range with(chain(), largeSetting()) {
		f.No = 1
		f.Target.No += 7
		if f.Kind != api.FaWithdraw {
			f.Target = api.Name{}
		}
		page := pagesOf(facts(f))[0]
		for n := range len(page) {
			if f.Setting.Since == api.MaxTime && n > 200 && n < len(page)-200 {
				continue
			}
			o, e := office.Open(1, []string{page[:n]})
			if e != api.OK || len(o.Facts()) != 0 {
				t.Error("Open", page[:n], e)
			}
		}
		o, e := office.Open(1, []string{page})
		if e != api.OK || len(o.Facts()) != 1 {
			t.Error("Open", page, e)
		}
	}
}

// bureau is some offices, whose facts a test knows: what each office holds, in the order in which it came.
type bureau struct {
	offices []*office.Office
	held    [][]api.Fact
	wrote   map[string]bool // the texts of all facts that were ever written
}

func newBureau(t *testing.T, n int) *bureau {
	b := &bureau{held: make([][]api.Fact, n), wrote: map[string]bool{}}
	for id := range n {
		b.offices = append(b.offices, opened(t, id+1))
	}
	return b
}

// write lets an office write a fact that chance makes.
func (b *bureau) write(t *testing.T, c *chance, id int) {
	t.Helper()
	f := unnamed(c.fact(name(7, 60), names(name(1, 1), name(2, 1), name(3, 2))))
	last := 0
	for _, x := range b.held[id] {
		if x.Office == id+1 {
			last = max(last, x.Known)
		}
	}
	f.Known = last + c.n(2)
	if f.Target == name(id+1, b.offices[id].Have()[id]+1) {
		f.Target = name(8, 8)
	}
	got, e := b.offices[id].Write(f)
	f.Office, f.No = id+1, b.count(id)+1
	same(t, "Write", got, e, f)
	text, _ := office.Encode(f)
	b.wrote[text] = true
	b.held[id] = append(b.held[id], f)
}

// count returns how many of its own facts an office holds.
func (b *bureau) count(id int) int {
	n := 0
	for _, f := range b.held[id] {
		if f.Office == id+1 {
			n++
		}
	}
	return n
}

// take lets an office take facts; those of them that are new come behind the others that it holds.
func (b *bureau) take(t *testing.T, id int, l []api.Fact) api.Errno {
	t.Helper()
	was := len(b.held[id])
	for _, f := range l {
		n, no := 0, false
		for _, x := range b.held[id] {
			if x.Office == f.Office {
				n = max(n, x.No)
			}
			no = no || nameOf(x) == nameOf(f)
		}
		if !no && f.No == n+1 {
			b.held[id] = append(b.held[id], f)
		}
	}
	got, e := b.offices[id].Take(l)
	if e == api.OK && got != len(b.held[id])-was {
		t.Error("Take", got, len(b.held[id])-was)
	}
	return e
}

// exchange lets each office take what each other one has more, once.
func (b *bureau) exchange(t *testing.T) {
	t.Helper()
	for to := range b.offices {
		for from, o := range b.offices {
			l, e := o.Since(b.offices[to].Have())
			if f := b.take(t, to, l); max(e, f) != api.OK {
				t.Error("the exchange", from, to, e, f)
			}
		}
	}
}

// TestP8_21 opens offices that took and wrote facts, from all their pages, and from pages of which bytes at the end are missing.
func TestP8_21(t *testing.T) {
	c := chance(21)
	for range 20 {
		b := newBureau(t, 3)
		for range 30 {
			b.write(t, &c, c.n(3))
			if c.n(3) == 0 {
				b.exchange(t)
			}
		}
		for id, o := range b.offices {
			held, pages := b.held[id], o.Pages()
			holds(t, "an office", o, held)
			again, e := office.Open(id+1, pages)
			if e != api.OK || again.ID() != id+1 {
				t.Fatal("Open", e)
			}
			holds(t, "an office that was opened again", again, held)
			last := len(pages) - 1
			for _, missing := range []int{1, c.from(1, len(pages[last])), len(pages[last])} {
				torn, e := office.Open(id+1, withPage(pages[:last], pages[last][:len(pages[last])-missing]))
				if e != api.OK {
					t.Fatal("Open", e)
				}
				holds(t, "an office that crashed", torn, held[:last])
				// What was lost comes again.
				if n, e := torn.Take(held); n != 1 || e != api.OK {
					t.Error("Take", n, e)
				}
				holds(t, "an office that got its last fact back", torn, held)
			}
		}
	}
}

// correspond lets the offices write facts, and send them to each other over a post that loses, repeats and reorders what is sent.
func (b *bureau) correspond(t *testing.T, c *chance) {
	t.Helper()
	type letter struct {
		to int
		l  []api.Fact
	}
	var post []letter
	n := len(b.offices)
	for range 60 {
		switch c.n(4) {
		case 0:
			b.write(t, c, c.n(n))
		case 1, 2:
			from, to := c.n(n), c.n(n)
			l, e := b.offices[from].Since(b.offices[to].Have())
			if e != api.OK {
				t.Error("Since", e)
			}
			if c.n(3) == 0 {
				l = c.part(l) // parts of a letter can be lost, too
			}
			post = append(post, letter{to, l})
		case 3:
			if len(post) == 0 {
				continue
			}
			k := c.n(len(post))
			if e := b.take(t, post[k].to, post[k].l); e != api.OK {
				t.Error("Take", e)
			}
			if c.n(3) > 0 { // otherwise it comes once more
				post = slices.Delete(post, k, k+1)
			}
		}
	}
	for id, o := range b.offices {
		holds(t, "an office", o, b.held[id])
	}
}

// union returns the names of all facts that some offices hold.
func union(l []*office.Office) map[api.Name]bool {
	all := map[api.Name]bool{}
	for _, o := range l {
		for _, f := range o.Facts() {
			all[nameOf(f)] = true
		}
	}
	return all
}

// TestP8_22 checks what offices hold that correspond, and then exchange what they lack.
func TestP8_22(t *testing.T) {
	c := chance(22)
	for range 30 {
		b := newBureau(t, c.from(2, 4))
		b.correspond(t, &c)
		all, both := union(b.offices), union(b.offices[:2])
		x, y := b.offices[0], b.offices[1]
		toY, e := x.Since(y.Have())
		toX, f := y.Since(x.Have())
		if max(e, f, b.take(t, 0, toX), b.take(t, 1, toY)) != api.OK {
			t.Error("the exchange of two offices")
		}
		same(t, "the facts of two offices", x.Facts(), api.OK, y.Facts())
		if len(x.Facts()) != len(both) {
			t.Error("facts of two offices", len(x.Facts()), len(both))
		}
		b.exchange(t)
		for id, o := range b.offices {
			holds(t, "an office behind the exchange", o, b.held[id])
			if got := o.Facts(); len(got) != len(all) || !isEqual(got, x.Facts()) {
				t.Error("facts behind the exchange", len(got), len(all))
			}
		}
	}
}

// part returns a list without some of its elements, and with others several times.
func (c *chance) part(l []api.Fact) []api.Fact {
	var some []api.Fact
	for _, f := range l {
		for range c.n(3) {
			some = append(some, f)
		}
	}
	return some
}

// TestP8_22Crashes lets offices crash as well: they write other facts under names that were lost. Whatever happens, each fact that is held was written by the office that its name tells, none is held twice, and none is lost but by a crash.
func TestP8_22Crashes(t *testing.T) {
	c := chance(220)
	clashes, crashes := 0, 0
	for range 40 {
		b := newBureau(t, 3)
		for range 60 {
			id := c.n(3)
			was := b.offices[id].Pages()
			switch c.n(5) {
			case 0, 1:
				b.write(t, &c, id)
			case 2, 3:
				l, e := b.offices[c.n(3)].Since(make([]int, api.MaxOffices))
				if e != api.OK {
					t.Error("Since", e)
				}
				if _, e := b.offices[id].Take(c.part(l)); e == api.ErrClash {
					clashes++
				} else if e != api.OK {
					t.Error("Take", e)
				}
			case 4:
				if len(was) == 0 {
					continue
				}
				last := was[len(was)-1]
				was = was[:len(was)-1]
				o, e := office.Open(id+1, withPage(was, last[:c.n(len(last))]))
				if e != api.OK {
					t.Fatal("Open", e)
				}
				b.offices[id] = o
				crashes++
			}
			if now := b.offices[id].Pages(); len(now) < len(was) || !slices.Equal(now[:len(was)], was) {
				t.Error("a fact is lost")
			}
			b.held[id] = b.offices[id].Facts()
			seen := map[api.Name]bool{}
			for _, f := range b.held[id] {
				text, _ := office.Encode(f)
				if !b.wrote[text] || seen[nameOf(f)] {
					t.Error("a fact that nobody wrote, or twice", text)
				}
				seen[nameOf(f)] = true
			}
			if have := b.offices[id].Have(); len(seen) != have[0]+have[1]+have[2] {
				t.Error("Have", have)
			}
		}
	}
	if clashes < 20 || crashes < 50 {
		t.Error("not an even test:", clashes, crashes)
	}
}

// TestR7 asks twice: maps are visited in different orders, which must not matter.
func TestR7(t *testing.T) {
	tries(7, 20, func(c *chance, l []api.Fact) {
		want := answers(l, lastKnown, 4, namesOf(l))
		for range 5 {
			sameAnswers(t, "once more", answers(l, lastKnown, 4, namesOf(l)), want)
		}
	})
}
