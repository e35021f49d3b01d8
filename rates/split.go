package rates

import (
	"cmp"
	"slices"

	"patrol/api"
)

// isSplit reports whether an amount can be divided by some weights, and returns the sum of the weights.
func isSplit(amount int, weights []int) (int, bool) {
	sum := 0
	for _, w := range weights {
		if !isIn(w, 0, api.MaxWeight) {
			return 0, false
		}
		sum += w
	}
	return sum, sum > 0 && isIn(amount, 0, api.MaxAmount)
}

// Split divides an amount by weights.
func Split(amount int, weights []int) ([]int, api.Errno) {
	if len(weights) > api.MaxParts {
		return nil, api.ErrLimit
	}
	sum, ok := isSplit(amount, weights)
	if !ok {
		return nil, api.ErrArg
	}
	left := amount
	var parts, rests, order []int
	for k, w := range weights {
		part := amount * w / sum
		parts = append(parts, part)
		rests = append(rests, amount*w%sum)
		order = append(order, k)
		left -= part
	}
	slices.SortStableFunc(order, func(a, b int) int { return cmp.Compare(rests[b], rests[a]) })
	// Each remainder is less than the sum, so that fewer pennies are left than there are parts.
	for _, k := range order[:left] {
		parts[k]++
	}
	return parts, api.OK
}
