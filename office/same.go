package office

import (
	"slices"

	"patrol/api"
)

// isSameDoor reports whether two doors are equal.
func isSameDoor(a, b api.Door) bool {
	return slices.Equal(a.Hours, b.Hours) && slices.Equal(a.Shut, b.Shut)
}

// isSameHouse reports whether two houses are equal.
func isSameHouse(a, b api.House) bool {
	return slices.Equal(a.Rooms, b.Rooms) && slices.EqualFunc(a.Doors, b.Doors, isSameDoor) && slices.Equal(a.Ways, b.Ways)
}

// isSameSetting reports whether two settings are equal.
func isSameSetting(a, b api.Setting) bool {
	return a.Since == b.Since && isSameHouse(a.House, b.House) && a.Ink == b.Ink &&
		slices.Equal(a.Keys, b.Keys) && slices.Equal(a.Stations, b.Stations)
}

// isSameSession reports whether two sessions are equal.
func isSameSession(a, b api.Session) bool {
	return a.ID == b.ID && a.In == b.In && a.Out == b.Out && a.Zero == b.Zero && a.End == b.End && a.Rate == b.Rate &&
		slices.Equal(a.Stops, b.Stops)
}

// isSameNode reports whether two nodes of orders are equal, but for the kids themselves.
func isSameNode(a, b *api.Order) bool {
	return a.Kind == b.Kind && slices.Equal(a.Names, b.Names) && a.Gap == b.Gap &&
		a.Most == b.Most && a.Lo == b.Lo && a.Hi == b.Hi && len(a.Kids) == len(b.Kids)
}

// isSameOrder reports whether two orders are equal. One that is not valid may have a node below itself, or many times; so two nodes are compared once only.
func isSameOrder(a, b api.Order) bool {
	type pair struct{ a, b *api.Order }
	done := map[pair]bool{}
	left := []pair{{&a, &b}}
	for len(left) > 0 {
		x := left[len(left)-1]
		left = left[:len(left)-1]
		if x.a == x.b || done[x] {
			continue
		}
		done[x] = true
		if !isSameNode(x.a, x.b) {
			return false
		}
		for k := range x.a.Kids {
			left = append(left, pair{&x.a.Kids[k], &x.b.Kids[k]})
		}
	}
	return true
}

// isSameDial reports whether two dials are equal.
func isSameDial(a, b api.Dial) bool {
	return a.No == b.No && a.Night == b.Night && a.Round == b.Round && slices.Equal(a.Crew, b.Crew) &&
		isSameSession(a.Session, b.Session) && a.Start == b.Start && a.Since == b.Since && isSameOrder(a.Order, b.Order)
}

// isSameLook reports whether two looks are equal.
func isSameLook(a, b api.Look) bool {
	return a.Dial == b.Dial && a.Reader == b.Reader && slices.Equal(a.Marks, b.Marks)
}

// isSamePerson reports whether two persons are equal.
func isSamePerson(a, b api.Person) bool { return a.ID == b.ID && slices.Equal(a.Duty, b.Duty) }

// isSameCustody reports whether two custody books are equal.
func isSameCustody(a, b api.Custody) bool {
	return slices.EqualFunc(a.People, b.People, isSamePerson) && slices.Equal(a.Keys, b.Keys) &&
		slices.Equal(a.Entries, b.Entries) && a.Gaps == b.Gaps
}

// Same reports whether two facts are equal.
func Same(a, b api.Fact) bool {
	return a.Office == b.Office && a.No == b.No && a.Known == b.Known && a.Kind == b.Kind &&
		isSameSetting(a.Setting, b.Setting) && isSameDial(a.Dial, b.Dial) && isSameLook(a.Look, b.Look) &&
		a.Policy == b.Policy && isSameCustody(a.Custody, b.Custody) && a.Target == b.Target
}
