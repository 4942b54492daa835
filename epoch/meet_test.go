package epoch_test

import (
	"fmt"
	"math"
	"math/rand"
	"slices"
	"testing"

	"watermeet/api"
	"watermeet/epoch"
)

func TestP10_4MeetByHand(t *testing.T) {
	l := epos(1, 0, 3, 10, 4, 12)
	for i, x := range []struct {
		a    []api.Epo
		aEnd int
		b    []api.Epo
		bEnd int
		want int
	}{
		// None in both.
		{nil, 0, nil, 0, 0},
		{nil, 7, nil, 9, 0},
		{l, 15, nil, 9, 0},
		{l, 15, epos(2, 0), 9, 0},
		{l, 15, epos(0, 0, 2, 5), 9, 0},
		{l, 15, epos(0, 0, 2, 5, 5, 12), 19, 0},
		{l, -3, epos(5, 12), -9, 0},
		// One in both: the last one of both, of one, of none.
		{epos(1, 0), 7, epos(1, 0), 9, 7},
		{l, 15, epos(1, 0), 12, 10},
		{l, 15, epos(1, 0), 10, 10},
		{l, 15, epos(1, 0), 9, 9},
		{l, 15, epos(1, 0, 2, 8), 9, 8},
		{l, 15, epos(1, 0, 2, 11), 20, 10},
		{l, 15, epos(0, 0, 4, 5), 14, 14},
		{l, 15, epos(0, 0, 4, 5), 16, 15},
		{l, 15, epos(0, 0, 3, 5, 5, 11), 20, 11},
		{l, 15, epos(0, 0, 3, 5, 5, 13), 20, 12},
		// Several in both: the greatest one counts, whatever the others are.
		{l, 15, l, 13, 13},
		{l, 15, l, 15, 15},
		{l, 15, epos(1, 0, 3, 10), 11, 11},
		{l, 15, epos(1, 0, 3, 10), 13, 12},
		{l, 15, epos(1, 0, 3, 10, 5, 11), 13, 11},
		{l, 15, epos(1, 2, 3, 4, 5, 6), 7, 6},
		{l, 15, epos(1, 2, 2, 3, 3, 4, 9, 30), 40, 12},
		{epos(1, 0, 2, 5, 6, 8), 9, epos(1, 0, 2, 5, 4, 7, 5, 9), 12, 7},
		// It is the same epoch, wherever it begins.
		{epos(3, 100), 120, epos(3, 5), 130, 120},
		{epos(3, 100, 4, 110), 120, epos(3, 5, 5, 40), 130, 40},
		// An end counts as it is, below a Start, and where no offset is.
		{l, 0, l, 15, 0},
		{l, 11, l, 15, 11},
		{l, -1, l, 15, -1},
		{l, math.MinInt, l, math.MaxInt, math.MinInt},
		{l, math.MaxInt, l, math.MaxInt, math.MaxInt},
		{l, top + 1, l, top + 5, top + 1},
		{l, -5, epos(1, 0, 3, 10), 20, 12},
		{l, -5, epos(1, 0, 3, 10), -7, -7},
		{epos(topGen, top), top + 1, epos(topGen, 0), top, top},
		{epos(0, 0), 5, epos(0, 0, 1, 3), 8, 3},
	} {
		if n := meets(t, fmt.Sprint(i), x.a, x.aEnd, x.b, x.bEnd); n != x.want {
			t.Errorf("%d: %s that ends with %d and %s that ends with %d meet at %d, want %d", i, brief(x.a), x.aEnd, brief(x.b), x.bEnd, n, x.want)
		}
	}
}

func TestP10_4MeetOfAllSmall(t *testing.T) {
	all := ascending(4)
	for _, a := range all {
		for _, b := range all {
			for aEnd := -1; aEnd <= 5; aEnd++ {
				for bEnd := -1; bEnd <= 5; bEnd++ {
					if n, want := epoch.Meet(a, aEnd, b, bEnd), wordsMeet(a, aEnd, b, bEnd); n != want {
						t.Fatalf("%s that ends with %d and %s that ends with %d meet at %d, want %d", brief(a), aEnd, brief(b), bEnd, n, want)
					}
				}
			}
		}
	}
}

func TestP10_4MeetOfShapes(t *testing.T) {
	for _, a := range slices.Concat(shapes(), odds()) {
		for _, b := range slices.Concat(shapes(), odds()) {
			for _, aEnd := range []int{math.MinInt, -1, 0, 9, 11, 15, top, top + 1, math.MaxInt} {
				for _, bEnd := range []int{-1, 10, 13, 40, top} {
					meets(t, a.name+" and "+b.name, a.l, aEnd, b.l, bEnd)
				}
			}
		}
	}
}

func TestP10_4MeetOfAny(t *testing.T) {
	r := rand.New(rand.NewSource(105))
	for range 20000 {
		a, b := anyEpochs(r), anyEpochs(r)
		meets(t, "any", a, r.Intn(60)-5, b, r.Intn(60)-5)
	}
}

// way is a log as far as it was written: its batches, the epochs that were put, and its end.
type way struct {
	bs     []api.Batch
	epochs []api.Epo
	end    int
}

// begin puts an epoch at the end; it need not write anything.
func (w *way) begin(which int) {
	x, e := epoch.Put(w.epochs, which, w.end)
	if e != api.OK {
		panic(fmt.Sprintf("the test's way can't go on with %d: %d", which, e))
	}
	w.epochs = x
}

// write puts a batch behind, of so many offsets, behind a gap, and its epoch with it.
func (w *way) write(which, gap, many, mark int) {
	w.end += gap
	w.begin(which)
	w.bs = append(w.bs, api.Batch{Base: w.end, Last: w.end + many - 1, From: w.end, Epoch: which, Pid: -1, Seq: mark})
	w.end += many
}

// goOn goes on in these epochs, in some of them by what is written, in others without.
func (w *way) goOn(r *rand.Rand, epochs []int) {
	for _, which := range epochs {
		if r.Intn(5) == 0 {
			w.begin(which)
		}
		for range r.Intn(4) {
			w.write(which, max(r.Intn(6)-3, 0), 1+r.Intn(3), r.Int())
		}
	}
}

func (w way) copied() way {
	return way{slices.Clone(w.bs), slices.Clone(w.epochs), w.end}
}

// below are the batches that reach no further than that.
func (w way) below(off int) []api.Batch {
	return slices.DeleteFunc(slices.Clone(w.bs), func(b api.Batch) bool { return b.Last >= off })
}

// parted makes two ways that are the same up to where they parted, and go on in other epochs.
func parted(r *rand.Rand) (a, b way, at int) {
	var together, ofA, ofB []int
	which := r.Intn(3)
	for range r.Intn(5) {
		together = append(together, which)
		which += 1 + r.Intn(2)
	}
	for range r.Intn(7) {
		if r.Intn(2) == 0 {
			ofA = append(ofA, which)
		} else {
			ofB = append(ofB, which)
		}
		which += 1 + r.Intn(2)
	}
	a.goOn(r, together)
	b, at = a.copied(), a.end
	a.goOn(r, ofA)
	b.goOn(r, ofB)
	return a, b, at
}

// onAt is the batch that holds an offset.
func (w way) onAt(off int) (api.Batch, bool) {
	for _, b := range w.bs {
		if b.Base <= off && off <= b.Last {
			return b, true
		}
	}
	return api.Batch{}, false
}

func same(a, b api.Batch) bool {
	return a.Base == b.Base && a.Last == b.Last && a.Epoch == b.Epoch && a.Seq == b.Seq
}

func TestP10_5TwoWays(t *testing.T) {
	later, empty := 0, 0
	for seed := range 20000 {
		a, b, at := parted(rand.New(rand.NewSource(int64(seed))))
		n := meets(t, fmt.Sprint("seed ", seed), a.epochs, a.end, b.epochs, b.end)
		if n < at || n > a.end || n > b.end {
			t.Errorf("seed %d: %s to %d and %s to %d parted at %d, and meet at %d", seed, brief(a.epochs), a.end, brief(b.epochs), b.end, at, n)
		}
		for off := range n {
			x, ok := a.onAt(off)
			y, okB := b.onAt(off)
			if ok != okB || ok && !same(x, y) {
				t.Errorf("seed %d: they meet at %d, and are not the same at %d", seed, n, off)
			}
		}
		if !slices.EqualFunc(a.below(n), b.below(n), same) {
			t.Errorf("seed %d: below %d there are other batches", seed, n)
		}
		if n > at {
			later++
		}
		if at == 0 {
			empty++
		}
	}
	if later < 100 || empty < 100 {
		t.Errorf("that looks at too little: %d met behind where they parted, %d had nothing together", later, empty)
	}
}

// The one that is cut to where they meet is the beginning of the other one, and meets it there again.
func TestP10_5CutToWhereTheyMeet(t *testing.T) {
	for seed := range 5000 {
		a, b, _ := parted(rand.New(rand.NewSource(int64(seed))))
		n := epoch.Meet(a.epochs, a.end, b.epochs, b.end)
		if n == 0 {
			continue
		}
		cut := epoch.Cut(b.epochs, n)
		if again := epoch.Meet(a.epochs, a.end, cut, n); again != n {
			t.Errorf("seed %d: cut to %d, they meet at %d", seed, n, again)
		}
		if before := epoch.Cut(a.epochs, n); !slices.Equal(cut, before) {
			t.Errorf("seed %d: cut to %d, the one has %s, the other one %s", seed, n, brief(cut), brief(before))
		}
	}
}

// The epochs that the batches tell do as well as those that were put.
func TestP10_5TwoWaysOfBatches(t *testing.T) {
	for seed := range 5000 {
		a, b, _ := parted(rand.New(rand.NewSource(int64(seed))))
		both := 0
		for both < min(len(a.bs), len(b.bs)) && same(a.bs[both], b.bs[both]) {
			both++
		}
		at, endA, endB := endOf(a.bs[:both]), endOf(a.bs), endOf(b.bs)
		n := meets(t, fmt.Sprint("seed ", seed), epoch.Of(a.bs), endA, epoch.Of(b.bs), endB)
		if n < at || !slices.EqualFunc(a.below(n), b.below(n), same) {
			t.Errorf("seed %d: parted at %d, they meet at %d", seed, at, n)
		}
	}
}

func endOf(bs []api.Batch) int {
	if len(bs) == 0 {
		return 0
	}
	return bs[len(bs)-1].Last + 1
}

// A log that is the beginning of another one meets it where it ends, also in the middle of an epoch.
func TestP10_5TheBeginning(t *testing.T) {
	for seed := range 2000 {
		r := rand.New(rand.NewSource(int64(seed)))
		var a way
		a.goOn(r, []int{1, 2, 4, 7, 8})
		for n := range len(a.bs) + 1 {
			end := endOf(a.bs[:n])
			if got := meets(t, fmt.Sprint("seed ", seed), epoch.Of(a.bs), endOf(a.bs), epoch.Of(a.bs[:n]), end); got != end {
				t.Errorf("seed %d: with its first %d batches it meets at %d, want %d", seed, n, got, end)
			}
		}
	}
}
