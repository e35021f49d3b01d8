package dial

import (
	"slices"

	"patrol/api"
)

// isPins reports whether an integer is a set of pins.
func isPins(set int) bool { return set >= 0 && set <= api.AllPins }

// hasPin reports whether a pin is in a set.
func hasPin(set, pin int) bool { return set>>pin&1 == 1 }

// countPins returns how many pins are in a set.
func countPins(set int) int {
	n := 0
	for pin := range api.Pins {
		if hasPin(set, pin) {
			n++
		}
	}
	return n
}

// firstPins returns the first n pins of a set, or all of them if there are fewer.
func firstPins(set, n int) int {
	first := 0
	for pin := range api.Pins {
		if n > 0 && hasPin(set, pin) {
			first |= 1 << pin
			n--
		}
	}
	return first
}

// CheckKey returns the error of a key.
func CheckKey(k api.Key) api.Errno {
	if k.ID < 1 || k.ID > api.MaxID || !isTrack(k.Track) || !isPins(k.Pattern) || k.Pattern == 0 {
		return api.ErrArg
	}
	return api.OK
}

// isTrack reports whether an integer is a track.
func isTrack(t int) bool { return t >= 0 && t < api.Tracks }

// CheckInk returns the error of an ink.
func CheckInk(i api.Ink) api.Errno {
	if min(i.Faint, i.Stray, i.Slip) < 0 || max(i.Faint, i.Stray) > api.MaxFaint || i.Slip > api.MaxSlip {
		return api.ErrArg
	}
	return api.OK
}

// CheckKeys returns the first error of the keys of a cabinet, and its index.
func CheckKeys(l []api.Key, i api.Ink) (api.Errno, int) {
	if CheckInk(i) != api.OK {
		return api.ErrArg, -1
	}
	return examine(l, api.MaxBunch, func(k int, x api.Key) api.Errno {
		if e := checkPlace(l, k); e != api.OK {
			return e
		}
		if slices.ContainsFunc(l[:k], confusedWith(x, i)) {
			return api.ErrClash
		}
		return api.OK
	})
}

// own returns, for each of two keys, the pins that it has, and the other one has not.
func own(keys [2]api.Key) [2]int {
	both := keys[0].Pattern & keys[1].Pattern
	return [2]int{keys[0].Pattern &^ both, keys[1].Pattern &^ both}
}

// confused reports whether a complete mark can be of each of two valid keys. A pin of one of them alone is faint for this one, or a stray one for the other one, so that each key can have so many of its own.
func confused(keys [2]api.Key, i api.Ink) bool {
	for _, set := range own(keys) {
		if countPins(set) > i.Faint+i.Stray {
			return false
		}
	}
	return keys[0].Track == keys[1].Track
}

// confusedWith returns a function that reports whether a valid key can be confused with k.
func confusedWith(k api.Key, i api.Ink) func(api.Key) bool {
	return func(x api.Key) bool { return confused([2]api.Key{k, x}, i) }
}

// Confusable reports whether a complete mark can be of either of two keys.
func Confusable(a, b api.Key, i api.Ink) bool {
	keys := [2]api.Key{a, b}
	for _, k := range keys {
		if CheckKey(k) != api.OK {
			return false
		}
	}
	return CheckInk(i) == api.OK && confused(keys, i)
}

// Witness returns a complete mark that can be of either of two keys.
func Witness(a, b api.Key, i api.Ink) (api.Mark, bool) {
	if !Confusable(a, b, i) {
		return api.Mark{}, false
	}
	seen := a.Pattern & b.Pattern
	for _, set := range own([2]api.Key{a, b}) {
		// As many as the other key takes for stray ones; the rest is not more than Faint.
		seen |= firstPins(set, i.Stray)
	}
	return complete(api.Arc{}, a.Track, seen), true
}

// Rival returns the least ID of a key of a bunch that can be confused with a key.
func Rival(l []api.Key, k api.Key, i api.Ink) (int, api.Errno) {
	if !isBunch(l) || CheckKey(k) != api.OK || CheckInk(i) != api.OK {
		return 0, api.ErrArg
	}
	at := slices.IndexFunc(l, confusedWith(k, i))
	if at < 0 {
		return 0, api.ErrNone
	}
	return l[at].ID, api.OK
}

// Propose returns the least pattern that can be confused with no key of a bunch.
func Propose(l []api.Key, track, from int, i api.Ink) (int, api.Errno) {
	if !isBunch(l) || !isTrack(track) || !isPins(from) || from == 0 || CheckInk(i) != api.OK {
		return 0, api.ErrArg
	}
	for set := from; set <= api.AllPins; set++ {
		if !slices.ContainsFunc(l, confusedWith(api.Key{ID: 1, Track: track, Pattern: set}, i)) {
			return set, api.OK
		}
	}
	return 0, api.ErrNone
}
