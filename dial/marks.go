package dial

import "patrol/api"

// CheckMark returns the error of a mark.
func CheckMark(m api.Mark) api.Errno {
	if !ValidArc(m.At) || !isTrack(m.Track) || !isPins(m.Seen) || !isPins(m.Blank) || m.Seen&m.Blank != 0 {
		return api.ErrArg
	}
	return api.OK
}

// complete returns the complete mark in which some pins are seen.
func complete(at api.Arc, track, seen int) api.Mark {
	return api.Mark{At: at, Track: track, Seen: seen, Blank: api.AllPins &^ seen}
}

// shows reports whether a mark shows a set of pins.
func shows(m api.Mark, set int, i api.Ink) bool {
	return countPins(set&m.Blank) <= i.Faint && countPins(m.Seen&^set) <= i.Stray
}

// canBe reports whether a mark can be of a key: some angle always reaches it.
func canBe(m api.Mark, k api.Key, i api.Ink) bool {
	return k.Track == m.Track && shows(m, k.Pattern, i)
}

// checkBlow returns ErrArg if an ink, or the pins of a blow, are not valid.
func checkBlow(b api.Blow, i api.Ink) api.Errno {
	if CheckInk(i) != api.OK || !isPins(b.Miss) || !isPins(b.Dirt) {
		return api.ErrArg
	}
	return api.OK
}

// hit returns the complete mark of a set of pins that strikes from an angle on over long units; ErrRange if the ink does not bound the blow.
func hit(set, track, at, long int, b api.Blow, i api.Ink) (api.Mark, api.Errno) {
	if countPins(set&b.Miss) > i.Faint || countPins(b.Dirt&^set) > i.Stray || b.Shift < -i.Slip || b.Shift > i.Slip {
		return api.Mark{}, api.ErrRange
	}
	from := Angle(Angle(at) + b.Shift) // at + b.Shift can overflow
	return complete(api.Arc{From: from, Len: long}, track, set&^b.Miss|b.Dirt), api.OK
}

// Strike returns the mark of a key that is struck at an angle.
func Strike(k api.Key, at int, b api.Blow, i api.Ink) (api.Mark, api.Errno) {
	if CheckKey(k) != api.OK || checkBlow(b, i) != api.OK {
		return api.Mark{}, api.ErrArg
	}
	return hit(k.Pattern, k.Track, at, 0, b, i)
}

// Twice returns the mark of two keys that are struck one after the other.
func Twice(k, l api.Key, at, apart int, b api.Blow, i api.Ink) (api.Mark, api.Errno) {
	if CheckKey(k) != api.OK || CheckKey(l) != api.OK || checkBlow(b, i) != api.OK {
		return api.Mark{}, api.ErrArg
	}
	if k.ID == l.ID || k.Track != l.Track || apart < 0 || apart > api.Double {
		return api.Mark{}, api.ErrArg
	}
	return hit(k.Pattern|l.Pattern, k.Track, at, apart, b, i)
}

// Blur returns a mark of which less is known.
func Blur(m api.Mark, by, unclear int) (api.Mark, api.Errno) {
	if CheckMark(m) != api.OK || by < 0 || by > api.Ring || !isPins(unclear) {
		return api.Mark{}, api.ErrArg
	}
	return api.Mark{At: widen(m.At, by), Track: m.Track, Seen: m.Seen &^ unclear, Blank: m.Blank &^ unclear}, api.OK
}

// Sharpen returns the mark of which is known what is known of either of two marks.
func Sharpen(a, b api.Mark) (api.Mark, api.Errno) {
	if CheckMark(a) != api.OK || CheckMark(b) != api.OK {
		return api.Mark{}, api.ErrArg
	}
	m := api.Mark{Track: a.Track, Seen: a.Seen | b.Seen, Blank: a.Blank | b.Blank}
	if a.Track != b.Track || m.Seen&m.Blank != 0 {
		return api.Mark{}, api.ErrClash
	}
	at, e := Meet([]api.Arc{a.At}, []api.Arc{b.At})
	if e != api.OK {
		return api.Mark{}, e
	}
	if len(at) == 0 {
		return api.Mark{}, api.ErrNone
	}
	if len(at) > 1 {
		return api.Mark{}, api.ErrRange
	}
	m.At = at[0]
	return m, api.OK
}

// Makers returns the IDs of the keys that a mark can be of.
func Makers(l []api.Key, m api.Mark, i api.Ink) ([]int, api.Errno) {
	if !isBunch(l) || CheckMark(m) != api.OK || CheckInk(i) != api.OK {
		return nil, api.ErrArg
	}
	var ids []int
	for _, k := range l {
		if canBe(m, k, i) {
			ids = append(ids, k.ID)
		}
	}
	return ids, api.OK
}

// Pairs returns the IDs of the pairs of keys that a mark can be of.
func Pairs(l []api.Key, m api.Mark, i api.Ink) ([][2]int, api.Errno) {
	if !isBunch(l) || CheckMark(m) != api.OK || CheckInk(i) != api.OK {
		return nil, api.ErrArg
	}
	var ids [][2]int
	for n, k := range l {
		if k.Track != m.Track {
			continue
		}
		for _, o := range l[n+1:] {
			// Both can have been struck at one angle, so that no angles need be sought.
			if o.Track == m.Track && shows(m, k.Pattern|o.Pattern, i) {
				ids = append(ids, [2]int{k.ID, o.ID})
			}
		}
	}
	return ids, api.OK
}

// Angles returns the angles at which a key can have been struck.
func Angles(k api.Key, m api.Mark, i api.Ink) ([]api.Arc, api.Errno) {
	if CheckKey(k) != api.OK || CheckMark(m) != api.OK || CheckInk(i) != api.OK {
		return nil, api.ErrArg
	}
	if !canBe(m, k, i) {
		return nil, api.OK
	}
	return []api.Arc{widen(m.At, i.Slip)}, api.OK
}

// Unread returns the indices of the marks that no key can have made.
func Unread(l []api.Key, ms []api.Mark, i api.Ink) ([]int, api.Errno) {
	if !isBunch(l) || CheckInk(i) != api.OK {
		return nil, api.ErrArg
	}
	if e := checkMarks(ms); e != api.OK {
		return nil, e
	}
	var unread []int
	for n, m := range ms {
		one, _ := Makers(l, m, i)
		two, _ := Pairs(l, m, i)
		if len(one) == 0 && len(two) == 0 {
			unread = append(unread, n)
		}
	}
	return unread, api.OK
}
