package rates_test

import (
	"math/big"
	"slices"
	"testing"

	"patrol/api"
	"patrol/rates"
)

// splitAsDefined divides by the chapter's definition: penny by penny, each one to the first of the greatest remainders of those parts that had none yet.
func splitAsDefined(amount int, weights []int) []int {
	sum := new(big.Int)
	for _, w := range weights {
		sum.Add(sum, big.NewInt(int64(w)))
	}
	left := amount
	parts, rests := make([]int, len(weights)), make([]*big.Int, len(weights))
	for k, w := range weights {
		part, rest := new(big.Int).DivMod(new(big.Int).Mul(big.NewInt(int64(amount)), big.NewInt(int64(w))), sum, new(big.Int))
		parts[k], rests[k] = int(part.Int64()), rest
		left -= parts[k]
	}
	had := make([]bool, len(weights))
	for range left {
		next := -1
		for k := range weights {
			if !had[k] && (next < 0 || rests[k].Cmp(rests[next]) > 0) {
				next = k
			}
		}
		had[next] = true
		parts[next]++
	}
	return parts
}

// split checks a division, and P7.16.
func split(t *testing.T, amount int, weights, want []int) {
	t.Helper()
	got, e := rates.Split(amount, weights)
	same(t, "Split", got, want, e)
	if len(got) != len(weights) {
		return
	}
	total, sum := 0, 0
	for k, w := range weights {
		total += got[k]
		sum += w
	}
	if total != amount {
		t.Error("Split: together", amount, weights, got)
	}
	for k, w := range weights {
		if share := amount * w / sum; got[k] < share || got[k] > share+1 {
			t.Error("Split: share", amount, weights, got, k)
		}
		for n, v := range weights {
			if w > v && got[k] < got[n] {
				t.Error("Split: a greater weight", amount, weights, got, k, n)
			}
		}
	}
}

func TestP7_4(t *testing.T) {
	const most = api.MaxAmount
	for _, x := range []struct {
		amount        int
		weights, want []int
	}{
		{0, []int{1}, []int{0}}, {0, []int{3, 0, 2}, []int{0, 0, 0}}, {1, []int{1}, []int{1}}, {most, []int{1}, []int{most}}, {most, []int{api.MaxWeight}, []int{most}},
		{5, []int{1, 1}, []int{3, 2}}, {10, []int{1, 1, 1}, []int{4, 3, 3}}, {11, []int{1, 1, 1}, []int{4, 4, 3}}, {12, []int{1, 1, 1}, []int{4, 4, 4}},
		{7, []int{0, 5, 2}, []int{0, 5, 2}}, {1, []int{1, 2}, []int{0, 1}}, {1, []int{0, 0, 1}, []int{0, 0, 1}}, {2, []int{1, 1, 1}, []int{1, 1, 0}},
		{1, []int{3, 5, 5}, []int{0, 1, 0}}, {2, []int{3, 5, 5}, []int{0, 1, 1}}, {2, []int{5, 3, 5}, []int{1, 0, 1}}, {3, []int{3, 5, 5}, []int{1, 1, 1}},
		{3, []int{1, 1, 5}, []int{1, 0, 2}}, {4, []int{1, 2, 4}, []int{1, 1, 2}}, {most, []int{api.MaxWeight, api.MaxWeight}, []int{most / 2, most / 2}},
		{most, []int{api.MaxWeight, api.MaxWeight - 1, api.MaxWeight}, splitAsDefined(most, []int{api.MaxWeight, api.MaxWeight - 1, api.MaxWeight})},
		{most - 1, slices.Repeat([]int{api.MaxWeight}, api.MaxParts), splitAsDefined(most-1, slices.Repeat([]int{api.MaxWeight}, api.MaxParts))},
		{49, slices.Repeat([]int{1}, api.MaxParts), append(slices.Repeat([]int{1}, 49), 0)},
	} {
		split(t, x.amount, x.weights, x.want)
	}
}

// TestP7_16 divides amounts by weights that chance makes, also as the chapter defines it.
func TestP7_16(t *testing.T) {
	r := chance(16)
	for range 20000 {
		weights, sum := make([]int, r.from(1, r.pick(2, 3, 5, 12, api.MaxParts))), 0
		most := r.pick(1, 2, 5, 100, api.MaxWeight)
		for k := range weights {
			weights[k] = r.from(0, most)
			sum += weights[k]
		}
		if sum == 0 {
			continue
		}
		amount := r.pick(r.from(0, 20), r.from(0, 1000), r.from(0, 1<<30), api.MaxAmount-r.n(100))
		split(t, amount, weights, splitAsDefined(amount, weights))
	}
}

func TestP7_4Errors(t *testing.T) {
	const most = api.MaxAmount
	fails := func(amount int, weights []int, want api.Errno) {
		t.Helper()
		if got, e := rates.Split(amount, weights); e != want || len(got) > 0 {
			t.Error("Split", amount, weights, got, e, want)
		}
	}
	for _, amount := range []int{-1, most + 1, minInt, maxInt} {
		fails(amount, []int{1}, api.ErrArg)
		fails(amount, nil, api.ErrArg)
		fails(amount, []int{0}, api.ErrArg)
		fails(amount, make([]int, api.MaxParts+1), api.ErrLimit)
	}
	for _, amount := range []int{0, 1, most} {
		for _, weights := range [][]int{nil, {}, {0}, {0, 0, 0}, {-1}, {-1, 2}, {2, -1}, {api.MaxWeight + 1}, {1, api.MaxWeight + 1, 1}, {minInt}, {maxInt}, {maxInt, maxInt, 3}, {minInt, maxInt, 2}, make([]int, api.MaxParts)} {
			fails(amount, weights, api.ErrArg)
		}
		fails(amount, slices.Repeat([]int{1}, api.MaxParts+1), api.ErrLimit)
		fails(amount, slices.Repeat([]int{-1}, api.MaxParts+1), api.ErrLimit)
	}
}
