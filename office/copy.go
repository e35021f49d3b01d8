package office

import (
	"slices"

	"patrol/api"
)

// copyOfOrder returns a valid order with memory of its own.
func copyOfOrder(o api.Order) api.Order {
	o.Names, o.Kids = slices.Clone(o.Names), slices.Clone(o.Kids)
	for k, kid := range o.Kids {
		o.Kids[k] = copyOfOrder(kid)
	}
	return o
}

// copyOfHouse returns a house with memory of its own.
func copyOfHouse(h api.House) api.House {
	h.Rooms, h.Doors, h.Ways = slices.Clone(h.Rooms), slices.Clone(h.Doors), slices.Clone(h.Ways)
	for k, x := range h.Doors {
		h.Doors[k] = api.Door{Hours: slices.Clone(x.Hours), Shut: slices.Clone(x.Shut)}
	}
	return h
}

// copyOfSetting returns a setting with memory of its own.
func copyOfSetting(s api.Setting) api.Setting {
	s.House, s.Keys, s.Stations = copyOfHouse(s.House), slices.Clone(s.Keys), slices.Clone(s.Stations)
	return s
}

// copyOfDial returns a valid dial with memory of its own.
func copyOfDial(d api.Dial) api.Dial {
	d.Crew, d.Session.Stops, d.Order = slices.Clone(d.Crew), slices.Clone(d.Session.Stops), copyOfOrder(d.Order)
	return d
}

// copyOfCustody returns a custody book with memory of its own.
func copyOfCustody(c api.Custody) api.Custody {
	c.People, c.Keys, c.Entries = slices.Clone(c.People), slices.Clone(c.Keys), slices.Clone(c.Entries)
	for k, p := range c.People {
		c.People[k].Duty = slices.Clone(p.Duty)
	}
	return c
}

// copyOf returns a valid fact with memory of its own.
func copyOf(f api.Fact) api.Fact {
	f.Setting, f.Dial, f.Custody = copyOfSetting(f.Setting), copyOfDial(f.Dial), copyOfCustody(f.Custody)
	f.Look.Marks = slices.Clone(f.Look.Marks)
	return f
}
