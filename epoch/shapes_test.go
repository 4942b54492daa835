package epoch_test

import (
	"math"
	"math/rand"
	"slices"

	"watermeet/api"
)

// shape is epochs, and what they are.
type shape struct {
	name string
	l    []api.Epo
}

// shapes are epochs that may be.
func shapes() []shape {
	return []shape{
		{"none", nil},
		{"none, but a list", []api.Epo{}},
		{"one at the bottom", epos(0, 0)},
		{"one", epos(5, 7)},
		{"one at the top", epos(topGen, top)},
		{"one, the first epoch at the top offset", epos(0, top)},
		{"one, the top epoch at the first offset", epos(topGen, 0)},
		{"the example's", epos(1, 0, 3, 10)},
		{"two by one", epos(0, 0, 1, 1)},
		{"two from bottom to top", epos(0, 0, topGen, top)},
		{"two at the top", epos(topGen-1, top-1, topGen, top)},
		{"three", epos(1, 0, 3, 10, 4, 12)},
		{"three by one, from above", epos(7, 20, 8, 21, 9, 22)},
		{"four by more", epos(2, 3, 10, 30, 11, 31, 300, 1<<30)},
		{"many by one", steady(40, 1, 1)},
		{"many by more", steady(40, 3, 5)},
	}
}

// steady are so many epochs that rise evenly, from 0 and 0 on.
func steady(many, byEpoch, byStart int) []api.Epo {
	l := make([]api.Epo, 0, many)
	for i := range many {
		l = append(l, api.Epo{Epoch: i * byEpoch, Start: i * byStart})
	}
	return l
}

// odds are epochs that may not be.
func odds() []shape {
	return []shape{
		{"Epoch of -1", epos(-1, 0)},
		{"Epoch far below 0", epos(math.MinInt, 0)},
		{"Epoch of 2^20 and 1", epos(topGen+1, 0)},
		{"Epoch far above", epos(math.MaxInt, 0)},
		{"Start of -1", epos(0, -1)},
		{"Start far below 0", epos(0, math.MinInt)},
		{"Start of 2^40 and 1", epos(0, top+1)},
		{"Start far above", epos(0, math.MaxInt)},
		{"both wrong", epos(-1, -1)},
		{"the first Epoch wrong", epos(-1, 0, 3, 5, 4, 9)},
		{"the first Start wrong", epos(2, -1, 3, 5, 4, 9)},
		{"an Epoch like that ahead", epos(2, 5, 2, 6)},
		{"an Epoch below that ahead", epos(2, 5, 1, 6)},
		{"a Start like that ahead", epos(2, 5, 3, 5)},
		{"a Start below that ahead", epos(2, 5, 3, 4)},
		{"twice the same", epos(2, 5, 2, 5)},
		{"falling", epos(4, 12, 3, 10, 1, 0)},
		{"the middle Epoch like that ahead", epos(1, 0, 1, 5, 4, 9)},
		{"the middle Epoch like that behind", epos(1, 0, 4, 5, 4, 9)},
		{"the middle Epoch below, the last one above the first one", epos(3, 0, 2, 5, 4, 9)},
		{"the middle Start like that ahead", epos(1, 5, 2, 5, 4, 9)},
		{"the middle Start like that behind", epos(1, 5, 2, 9, 4, 9)},
		{"the middle Start below, the last one above the first one", epos(1, 5, 2, 4, 4, 9)},
		{"the last Epoch of 2^20 and 1", epos(1, 0, 3, 10, topGen+1, 12)},
		{"the last Start of 2^40 and 1", epos(1, 0, 3, 10, 4, top+1)},
		{"the last Epoch like that ahead", epos(1, 0, 3, 10, 3, 12)},
		{"the last Start like that ahead", epos(1, 0, 3, 10, 4, 10)},
		{"the first one wrong of many", slices.Concat(epos(-1, -1), steady(40, 2, 2))},
		{"the last one wrong of many", slices.Concat(steady(40, 2, 2), epos(78, 79))},
	}
}

// ascending are all lists that may be whose Epochs and Starts are below many.
func ascending(many int) [][]api.Epo {
	all := [][]api.Epo{nil}
	for at := 0; at < len(all); at++ {
		end := api.Epo{Epoch: -1, Start: -1}
		if n := len(all[at]); n > 0 {
			end = all[at][n-1]
		}
		for e := end.Epoch + 1; e < many; e++ {
			for s := end.Start + 1; s < many; s++ {
				all = append(all, slices.Concat(all[at], epos(e, s)))
			}
		}
	}
	return all
}

// anyOf are all lists of up to so many epochs, each of one of these Epochs and one of these Starts, in whatever order.
func anyOf(many int, epochs, starts []int) [][]api.Epo {
	all := [][]api.Epo{nil}
	for at := 0; at < len(all); at++ {
		if len(all[at]) == many {
			break
		}
		for _, e := range epochs {
			for _, s := range starts {
				all = append(all, slices.Concat(all[at], epos(e, s)))
			}
		}
	}
	return all
}

// anyEpochs are epochs that may be, from anywhere on.
func anyEpochs(r *rand.Rand) []api.Epo {
	var l []api.Epo
	x := api.Epo{Epoch: r.Intn(5), Start: r.Intn(8)}
	if r.Intn(4) == 0 {
		x = api.Epo{Epoch: topGen - r.Intn(12), Start: top - r.Intn(30)}
	}
	for range r.Intn(9) {
		if x.Epoch > topGen || x.Start > top {
			break
		}
		l = append(l, x)
		x = api.Epo{Epoch: x.Epoch + 1 + r.Intn(3), Start: x.Start + 1 + r.Intn(5)}
	}
	return l
}

// offsets are numbers beside each Start, and the edges.
func offsets(ls ...[]api.Epo) []int {
	x := []int{math.MinInt, math.MinInt + 1, -1, 0, 1, top - 1, top, top + 1, math.MaxInt - 1, math.MaxInt}
	for _, l := range ls {
		for _, y := range l {
			x = append(x, y.Start-1, y.Start, y.Start+1)
		}
	}
	slices.Sort(x)
	return slices.Compact(x)
}

// numbers are numbers beside each Epoch, and the edges.
func numbers(l []api.Epo) []int {
	x := []int{math.MinInt, math.MinInt + 1, -1, 0, 1, topGen - 1, topGen, topGen + 1, math.MaxInt - 1, math.MaxInt}
	for _, y := range l {
		x = append(x, y.Epoch-1, y.Epoch, y.Epoch+1)
	}
	slices.Sort(x)
	return slices.Compact(x)
}
