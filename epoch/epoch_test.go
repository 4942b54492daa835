package epoch_test

import (
	"fmt"
	"math"
	"math/rand"
	"slices"
	"strings"
	"testing"

	"watermeet/api"
	"watermeet/epoch"
)

func TestP10_1CheckByHand(t *testing.T) {
	for _, x := range shapes() {
		if e := checks(t, x.name, x.l); e != api.OK {
			t.Errorf("%s: %s is told %d", x.name, brief(x.l), e)
		}
	}
	for _, x := range odds() {
		if e := checks(t, x.name, x.l); e != api.ErrArg {
			t.Errorf("%s: %s is told %d", x.name, brief(x.l), e)
		}
	}
}

func TestP10_1CheckByLimits(t *testing.T) {
	for _, which := range numbers(nil) {
		for _, start := range offsets() {
			want := api.ErrArg
			if which >= 0 && which <= 1<<20 && start >= 0 && start <= 1<<40 {
				want = api.OK
			}
			if e := checks(t, "alone", epos(which, start)); e != want {
				t.Errorf("%d from %d is told %d, want %d", which, start, e, want)
			}
			if which > 0 && start > 0 {
				if e := checks(t, "the last one", epos(0, 0, which, start)); e != want {
					t.Errorf("%d from %d, the last one, is told %d, want %d", which, start, e, want)
				}
			}
			if which < topGen && start < top {
				if e := checks(t, "the first one", epos(which, start, topGen, top)); e != want {
					t.Errorf("%d from %d, the first one, is told %d, want %d", which, start, e, want)
				}
			}
		}
	}
}

// What an Epoch and a Start may be hangs on those of the one ahead, each for itself.
func TestP10_1CheckByTheOneAhead(t *testing.T) {
	for _, ahead := range []api.Epo{{Epoch: 4, Start: 6}, {Epoch: 1, Start: 1}, {Epoch: topGen - 2, Start: top - 2}} {
		for de := -1; de <= 2; de++ {
			for ds := -1; ds <= 2; ds++ {
				x := []api.Epo{ahead, {Epoch: ahead.Epoch + de, Start: ahead.Start + ds}}
				want := api.ErrArg
				if de > 0 && ds > 0 {
					want = api.OK
				}
				if e := checks(t, "two", x); e != want {
					t.Errorf("%s is told %d, want %d", brief(x), e, want)
				}
				for _, y := range [][]api.Epo{slices.Concat(epos(0, 0), x), slices.Concat(x, epos(topGen, top))} {
					want := want
					if y[2].Epoch <= y[1].Epoch || y[2].Start <= y[1].Start {
						want = api.ErrArg
					}
					if e := checks(t, "two, of three", y); e != want {
						t.Errorf("%s is told %d, want %d", brief(y), e, want)
					}
				}
			}
		}
	}
}

func TestP10_1CheckOfAll(t *testing.T) {
	told := map[api.Errno]int{}
	for _, l := range anyOf(4, []int{0, 1, 2}, []int{0, 1, 2}) {
		told[checks(t, "low", l)]++
	}
	for _, l := range anyOf(3, []int{-1, 0, 1, 2}, []int{-1, 0, 1, 2}) {
		told[checks(t, "low", l)]++
	}
	for _, l := range anyOf(3, []int{topGen - 2, topGen - 1, topGen, topGen + 1}, []int{top - 2, top - 1, top, top + 1}) {
		told[checks(t, "high", l)]++
	}
	if told[api.OK] < 40 || told[api.ErrArg] < 10000 {
		t.Errorf("that looks at too little: %v", told)
	}
}

func TestP10_1PutByHand(t *testing.T) {
	l := epos(1, 0, 3, 10, 4, 12)
	for i, x := range []struct {
		l            []api.Epo
		which, start int
		want         []api.Epo
		e            api.Errno
	}{
		{nil, 0, 0, epos(0, 0), api.OK},
		{nil, 5, 7, epos(5, 7), api.OK},
		{nil, topGen, top, epos(topGen, top), api.OK},
		{nil, -1, 0, nil, api.ErrArg},
		{nil, 0, -1, nil, api.ErrArg},
		{nil, topGen + 1, 0, nil, api.ErrArg},
		{nil, 0, top + 1, nil, api.ErrArg},
		{l, 5, 13, epos(1, 0, 3, 10, 4, 12, 5, 13), api.OK},
		{l, topGen, top, epos(1, 0, 3, 10, 4, 12, topGen, top), api.OK},
		{l, 5, 12, epos(1, 0, 3, 10, 5, 12), api.OK},
		{l, 99, 12, epos(1, 0, 3, 10, 99, 12), api.OK},
		{l, 5, 11, nil, api.ErrOrder},
		{l, 5, 10, nil, api.ErrOrder},
		{l, 5, 0, nil, api.ErrOrder},
		{l, 4, 0, l, api.OK},
		{l, 4, 11, l, api.OK},
		{l, 4, 12, l, api.OK},
		{l, 4, 13, l, api.OK},
		{l, 4, top, l, api.OK},
		{l, 4, -1, nil, api.ErrArg},
		{l, 4, top + 1, nil, api.ErrArg},
		{l, 3, 12, nil, api.ErrEpoch},
		{l, 3, 10, nil, api.ErrEpoch},
		{l, 3, 20, nil, api.ErrEpoch},
		{l, 0, 0, nil, api.ErrEpoch},
		{epos(7, 0), 8, 0, epos(8, 0), api.OK},
		{epos(7, 5), 8, 5, epos(8, 5), api.OK},
		{epos(7, 5), 8, 4, nil, api.ErrOrder},
		{epos(7, 5), 8, 6, epos(7, 5, 8, 6), api.OK},
		{epos(topGen-1, top), topGen, top, epos(topGen, top), api.OK},
		{epos(topGen, top), topGen, 0, epos(topGen, top), api.OK},
	} {
		if got, e := puts(t, fmt.Sprint(i), x.l, x.which, x.start); e != x.e || !slices.Equal(got, x.want) {
			t.Errorf("%d: Put of %d, %d behind %s tells %s, %d, want %s, %d", i, x.which, x.start, brief(x.l), brief(got), e, brief(x.want), x.e)
		}
	}
}

// Where several things are wrong, what may not be is told first, an epoch that is gone by next, and what does not follow last.
func TestP10_1PutWhichErrorComesFirst(t *testing.T) {
	l, odd := epos(2, 5, 4, 12), epos(4, 12, 2, 5)
	for i, x := range []struct {
		l            []api.Epo
		which, start int
		e            api.Errno
	}{
		{odd, -1, -1, api.ErrArg},
		{odd, 3, 3, api.ErrArg},
		{odd, 2, 5, api.ErrArg},
		{odd, 1, 0, api.ErrArg},
		{odd, 9, 99, api.ErrArg},
		{epos(4, -1), 4, 0, api.ErrArg},
		{l, -1, 0, api.ErrArg},
		{l, math.MinInt, 20, api.ErrArg},
		{l, 1, -1, api.ErrArg},
		{l, 1, top + 1, api.ErrArg},
		{l, 4, -1, api.ErrArg},
		{l, 4, top + 1, api.ErrArg},
		{l, 5, -1, api.ErrArg},
		{l, 5, math.MinInt, api.ErrArg},
		{l, topGen + 1, 0, api.ErrArg},
		{l, topGen + 1, 20, api.ErrArg},
		{l, math.MaxInt, math.MaxInt, api.ErrArg},
		{l, 3, 0, api.ErrEpoch},
		{l, 0, 11, api.ErrEpoch},
		{l, 3, 99, api.ErrEpoch},
		{l, 5, 0, api.ErrOrder},
		{l, topGen, 11, api.ErrOrder},
	} {
		if got, e := puts(t, fmt.Sprint(i), x.l, x.which, x.start); e != x.e || len(got) != 0 {
			t.Errorf("%d: Put of %d, %d behind %s tells %s, %d, want %d", i, x.which, x.start, brief(x.l), brief(got), e, x.e)
		}
	}
}

func TestP10_1PutOfAll(t *testing.T) {
	told := map[api.Errno]int{}
	for _, x := range slices.Concat(shapes(), odds()) {
		for _, which := range numbers(x.l) {
			for _, start := range offsets(x.l) {
				_, e := puts(t, x.name, x.l, which, start)
				told[e]++
			}
		}
	}
	for _, l := range ascending(4) {
		for which := -1; which <= 5; which++ {
			for start := -1; start <= 5; start++ {
				_, e := puts(t, "small", l, which, start)
				told[e]++
			}
		}
	}
	for _, e := range []api.Errno{api.OK, api.ErrArg, api.ErrEpoch, api.ErrOrder} {
		if told[e] < 200 {
			t.Errorf("that looks at too little: %v", told)
		}
	}
}

func batchesOf(l []api.Epo) []api.Batch {
	var bs []api.Batch
	for _, x := range l {
		bs = append(bs, api.Batch{Base: x.Start, Last: x.Start, From: x.Start, Epoch: x.Epoch, Pid: -1})
	}
	return bs
}

func TestP10_1OfByHand(t *testing.T) {
	for i, x := range []struct{ bs, want []api.Epo }{
		{nil, nil},
		{epos(0, 0), epos(0, 0)},
		{epos(3, 9), epos(3, 9)},
		{epos(topGen, top), epos(topGen, top)},
		{epos(1, 0, 1, 5, 3, 10, 2, 11, 4, 12), epos(1, 0, 3, 10, 4, 12)},
		{epos(1, 0, 1, 5, 1, 9, 2, 12, 2, 20), epos(1, 0, 2, 12)},
		// An Epoch that falls, comes twice, or may not be.
		{epos(3, 0, 2, 5, 3, 7, 4, 9), epos(3, 0, 4, 9)},
		{epos(3, 0, 2, 0, 1, 0), epos(3, 0)},
		{epos(-1, 0, 2, 5), epos(2, 5)},
		{epos(2, 5, -1, 9, topGen+1, 10, 3, 11), epos(2, 5, 3, 11)},
		{epos(topGen+1, 5, math.MinInt, 6, math.MaxInt, 7), nil},
		// A Base that falls, comes twice, or may not be.
		{epos(1, 5, 2, 4, 3, 6), epos(1, 5, 3, 6)},
		{epos(1, 5, 2, 4, 3, 5), epos(3, 5)},
		{epos(1, 5, 2, 5, 3, 5), epos(3, 5)},
		{epos(1, 0, 2, 5, 3, 5, 4, 5, 5, 4, 6, 7), epos(1, 0, 4, 5, 6, 7)},
		{epos(1, -1, 2, 5, 3, top+1, 4, 9), epos(2, 5, 4, 9)},
		{epos(1, 3, 1, -1, 1, top+1, 1, 2), epos(1, 3)},
		// What is passed by leaves no trace: not the Epoch, and not the Base.
		{epos(9, -1, 1, 0, topGen, -1, 2, 8), epos(1, 0, 2, 8)},
		{epos(1, 10, 5, 3, 2, 11), epos(1, 10, 2, 11)},
	} {
		if got := ofs(t, fmt.Sprint(i), batchesOf(x.bs)); !slices.Equal(got, x.want) {
			t.Errorf("%d: Of batches of %s tells %s, want %s", i, brief(x.bs), brief(got), brief(x.want))
		}
	}
}

// Of asks of batches their Epoch and Base alone, whatever else they are.
func TestP10_1OfAsksForNothingElse(t *testing.T) {
	bs := []api.Batch{
		{Base: 0, Last: -9, From: -9, Epoch: 1, Pid: -77, Gen: -1, Seq: -1, Ctl: 99},
		{Base: 4, Last: 0, Epoch: 2, Pid: 5, Txn: true, Ctl: api.Commit, Recs: make([]api.Rec, 40)},
		{Base: 4, Last: math.MaxInt, Epoch: 3, Recs: []api.Rec{{Off: -5, Key: strings.Repeat("x", 99)}}},
		{Base: 9, Last: 3, Epoch: 4, Ctl: api.Abort},
	}
	if got := ofs(t, "odd batches", bs); !slices.Equal(got, epos(1, 0, 3, 4, 4, 9)) {
		t.Errorf("got %s", brief(got))
	}
}

func TestP10_1OfAll(t *testing.T) {
	for _, l := range anyOf(4, []int{-1, 0, 1, 2}, []int{-1, 0, 1}) {
		ofs(t, "small", batchesOf(l))
	}
	for _, l := range anyOf(3, []int{0, 1, topGen, topGen + 1}, []int{0, top - 1, top, top + 1}) {
		ofs(t, "edges", batchesOf(l))
	}
	for _, x := range slices.Concat(shapes(), odds()) {
		ofs(t, x.name, batchesOf(x.l))
	}
	r := rand.New(rand.NewSource(101))
	for range 2000 {
		var l []api.Epo
		for range r.Intn(40) {
			l = append(l, api.Epo{Epoch: r.Intn(12) - 1, Start: r.Intn(30) - 1})
		}
		ofs(t, "any", batchesOf(l))
	}
}

// Of the batches that begin epochs that may be these are told.
func TestP10_1OfTellsWhatMayBe(t *testing.T) {
	for _, l := range ascending(5) {
		if got := ofs(t, "ascending", batchesOf(l)); !slices.Equal(got, l) {
			t.Errorf("of %s got %s", brief(l), brief(got))
		}
	}
}

func TestP10_2Example(t *testing.T) {
	if which, off := epoch.EndOf(epos(1, 0, 3, 10), 2, 15); which != 1 || off != 10 {
		t.Errorf("got %d, %d", which, off)
	}
}

func TestP10_2EndOfByHand(t *testing.T) {
	l := epos(2, 3, 3, 10, 6, 12)
	for i, x := range []struct {
		l               []api.Epo
		which, end      int
		wantWhich, want int
	}{
		{l, 1, 15, -1, 0},
		{l, 0, 15, -1, 0},
		{l, -1, 15, -1, 0},
		{l, math.MinInt, 15, -1, 0},
		{l, 2, 15, 2, 10},
		{l, 3, 15, 3, 12},
		{l, 4, 15, 3, 12},
		{l, 5, 15, 3, 12},
		{l, 6, 15, 6, 15},
		{l, 7, 15, 6, 15},
		{l, topGen, 15, 6, 15},
		{l, topGen + 1, 15, 6, 15},
		{l, math.MaxInt, 15, 6, 15},
		// Of all but the last one it is the Start of the next one, wherever the log ends.
		{l, 2, 0, 2, 10},
		{l, 5, 11, 3, 12},
		{l, 3, math.MaxInt, 3, 12},
		// Of the last one it is the log's end, also below its Start, and where no offset is.
		{l, 6, 12, 6, 12},
		{l, 6, 11, 6, 11},
		{l, 6, 0, 6, 0},
		{l, 6, -1, 6, -1},
		{l, 6, top + 1, 6, top + 1},
		{l, 6, math.MinInt, 6, math.MinInt},
		{l, 6, math.MaxInt, 6, math.MaxInt},
		{nil, 5, 15, -1, 0},
		{nil, math.MaxInt, 15, -1, 0},
		{nil, -1, 15, -1, 0},
		{epos(0, 0), 0, 7, 0, 7},
		{epos(0, 0), -1, 7, -1, 0},
		{epos(topGen, top), topGen, top, topGen, top},
		{epos(topGen, top), topGen - 1, top, -1, 0},
	} {
		if which, off := endsOf(t, fmt.Sprint(i), x.l, x.which, x.end); which != x.wantWhich || off != x.want {
			t.Errorf("%d: EndOf %d in %s that ends with %d tells %d, %d, want %d, %d", i, x.which, brief(x.l), x.end, which, off, x.wantWhich, x.want)
		}
	}
}

func TestP10_2EndOfAll(t *testing.T) {
	for _, x := range slices.Concat(shapes(), odds()) {
		for _, which := range numbers(x.l) {
			for _, end := range offsets(x.l) {
				endsOf(t, x.name, x.l, which, end)
			}
		}
	}
	for _, l := range ascending(4) {
		for which := -1; which <= 5; which++ {
			for end := -1; end <= 5; end++ {
				endsOf(t, "small", l, which, end)
			}
		}
	}
}

func TestP10_3CutByHand(t *testing.T) {
	l := epos(1, 2, 3, 10, 4, 12)
	for off, n := range map[int]int{math.MinInt: 0, -1: 0, 0: 0, 1: 0, 2: 0, 3: 1, 9: 1, 10: 1, 11: 2, 12: 2, 13: 3, 1 << 40: 3, 1<<40 + 1: 3, math.MaxInt: 3} {
		if got := cuts(t, "by hand", l, off); !slices.Equal(got, l[:n]) {
			t.Errorf("Cut of %s at %d tells %s", brief(l), off, brief(got))
		}
	}
	for _, off := range offsets() {
		if got := cuts(t, "none", nil, off); len(got) != 0 {
			t.Errorf("Cut of none at %d tells %s", off, brief(got))
		}
	}
	for off, n := range map[int]int{0: 0, top - 1: 0, top: 0, top + 1: 1, math.MaxInt: 1} {
		if got := cuts(t, "at the top", epos(topGen, top), off); len(got) != n {
			t.Errorf("Cut of one at the top at %d tells %s", off, brief(got))
		}
	}
}

func TestP10_3TrimByHand(t *testing.T) {
	l := epos(1, 2, 3, 10, 4, 12)
	for start, want := range map[int][]api.Epo{
		math.MinInt: nil,
		-1:          nil,
		0:           l,
		1:           l,
		2:           l,
		3:           epos(1, 3, 3, 10, 4, 12),
		9:           epos(1, 9, 3, 10, 4, 12),
		10:          epos(3, 10, 4, 12),
		11:          epos(3, 11, 4, 12),
		12:          epos(4, 12),
		13:          epos(4, 13),
		99:          epos(4, 99),
		top - 1:     epos(4, top-1),
		top:         epos(4, top),
		top + 1:     nil,
		math.MaxInt: nil,
	} {
		if got := trims(t, "by hand", l, start); !slices.Equal(got, want) {
			t.Errorf("Trim of %s to %d tells %s, want %s", brief(l), start, brief(got), brief(want))
		}
	}
	for _, start := range offsets() {
		if got := trims(t, "none", nil, start); len(got) != 0 {
			t.Errorf("Trim of none to %d tells %s", start, brief(got))
		}
	}
	for start, want := range map[int][]api.Epo{0: epos(5, 7), 6: epos(5, 7), 7: epos(5, 7), 8: epos(5, 8), top: epos(5, top), top + 1: nil, -1: nil} {
		if got := trims(t, "one", epos(5, 7), start); !slices.Equal(got, want) {
			t.Errorf("Trim of one to %d tells %s, want %s", start, brief(got), brief(want))
		}
	}
}

func TestP10_3All(t *testing.T) {
	for _, x := range slices.Concat(shapes(), odds()) {
		for _, off := range offsets(x.l) {
			cuts(t, x.name, x.l, off)
			trims(t, x.name, x.l, off)
		}
	}
	for _, l := range ascending(5) {
		for off := -1; off <= 6; off++ {
			cuts(t, "small", l, off)
			trims(t, "small", l, off)
		}
	}
	r := rand.New(rand.NewSource(103))
	for range 1000 {
		l := anyEpochs(r)
		for _, off := range offsets(l) {
			cuts(t, "any", l, off)
			trims(t, "any", l, off)
		}
	}
}

// What is there at an offset is told the same behind Cut and Trim, as long as they leave it there.
func TestP10_3WhoLedStays(t *testing.T) {
	led := func(l []api.Epo, off int) int {
		which := -1
		for _, x := range l {
			if x.Start <= off {
				which = x.Epoch
			}
		}
		return which
	}
	r := rand.New(rand.NewSource(104))
	for range 500 {
		l := anyEpochs(r)
		for _, at := range offsets(l) {
			for _, off := range offsets(l) {
				if off < at && led(epoch.Cut(l, at), off) != led(l, off) {
					t.Errorf("cut at %d, %s has another epoch at %d", at, brief(l), off)
				}
				if at >= 0 && at <= top && off >= at && led(epoch.Trim(l, at), off) != led(l, off) {
					t.Errorf("trimmed to %d, %s has another epoch at %d", at, brief(l), off)
				}
			}
		}
	}
}

// Of epochs that may not be EndOf tells -1 and 0, Put an error and none, Cut and Trim none, Meet 0, whatever else they are handed.
func TestWhatMayNotBe(t *testing.T) {
	for _, x := range odds() {
		for _, n := range append(offsets(x.l), numbers(x.l)...) {
			for _, m := range append(offsets(x.l), 5, 9) {
				if got, e := epoch.Put(x.l, n, m); len(got) != 0 || e != api.ErrArg {
					t.Errorf("%s: Put of %d, %d tells %s, %d", x.name, n, m, brief(got), e)
				}
				if which, off := epoch.EndOf(x.l, n, m); which != -1 || off != 0 {
					t.Errorf("%s: EndOf %d, %d tells %d, %d", x.name, n, m, which, off)
				}
			}
			if got := epoch.Cut(x.l, n); len(got) != 0 {
				t.Errorf("%s: Cut at %d tells %s", x.name, n, brief(got))
			}
			if got := epoch.Trim(x.l, n); len(got) != 0 {
				t.Errorf("%s: Trim to %d tells %s", x.name, n, brief(got))
			}
		}
		for _, y := range slices.Concat(shapes(), odds()) {
			if got := meets(t, x.name+" and "+y.name, x.l, 50, y.l, 60); got != 0 {
				t.Errorf("%s and %s meet at %d", x.name, y.name, got)
			}
		}
		if got := meets(t, x.name, x.l, 50, x.l, 50); got != 0 {
			t.Errorf("%s meets itself at %d", x.name, got)
		}
	}
}

// calls are what is told of epochs by each call that tells some, each twice.
func calls(l []api.Epo) map[string][][]api.Epo {
	end := api.Epo{}
	if len(l) > 0 {
		end = l[len(l)-1]
	}
	put := func(which, start int) func() []api.Epo {
		return func() []api.Epo { x, _ := epoch.Put(l, min(which, topGen), min(start, top)); return x }
	}
	told := map[string][][]api.Epo{}
	for name, call := range map[string]func() []api.Epo{
		"Put behind":        put(end.Epoch+1, end.Start+1),
		"Put, of the last":  put(end.Epoch, end.Start+1),
		"Put, in its place": put(end.Epoch+1, end.Start),
		"Cut, nothing":      func() []api.Epo { return epoch.Cut(l, math.MaxInt) },
		"Cut, the last":     func() []api.Epo { return epoch.Cut(l, end.Start) },
		"Cut, half":         func() []api.Epo { return epoch.Cut(l, end.Start/2) },
		"Cut, all":          func() []api.Epo { return epoch.Cut(l, 0) },
		"Trim, nothing":     func() []api.Epo { return epoch.Trim(l, 0) },
		"Trim, half":        func() []api.Epo { return epoch.Trim(l, end.Start/2) },
		"Trim, to the last": func() []api.Epo { return epoch.Trim(l, end.Start) },
		"Trim, all":         func() []api.Epo { return epoch.Trim(l, top) },
		"Of":                func() []api.Epo { return epoch.Of(batchesOf(l)) },
	} {
		told[name] = [][]api.Epo{call(), call()}
	}
	return told
}

func TestEpochsThatAreToldAreNew(t *testing.T) {
	for _, x := range shapes() {
		l := roomy(x.l)
		for name, two := range calls(l) {
			was, wasTwo := room(l), room(two[1])
			scribble(two[0])
			if !slices.Equal(room(l), was) {
				t.Errorf("%s: %s: what was handed in changes with what is told", x.name, name)
			}
			if !slices.Equal(room(two[1]), wasTwo) {
				t.Errorf("%s: %s: what is told changes with what was told ahead of it", x.name, name)
			}
		}
	}
}

// What is told stays as it is when what was handed in does not, and whatever is put behind it.
func TestEpochsThatAreToldStay(t *testing.T) {
	for _, x := range shapes() {
		l := roomy(x.l)
		told := calls(l)
		was := map[string][]api.Epo{}
		for name, two := range told {
			was[name] = slices.Clone(two[0])
		}
		scribble(l)
		for name, two := range told {
			calls(two[0])
			if !slices.Equal(two[0], was[name]) {
				t.Errorf("%s: %s changes with what was handed in, or with what is told of it", x.name, name)
			}
		}
	}
}

// A list of all epochs that there may be is looked at in about as many steps.
func TestVeryMany(t *testing.T) {
	l := steady(topGen+1, 1, 3)
	if e := epoch.Check(l); e != api.OK {
		t.Fatalf("Check tells %d", e)
	}
	end := l[topGen]
	if x, e := epoch.Put(l[:topGen], end.Epoch, end.Start); e != api.OK || !slices.Equal(x, l) {
		t.Errorf("Put tells %s, %d", brief(x), e)
	}
	if which, off := epoch.EndOf(l, 5, 7); which != 5 || off != 18 {
		t.Errorf("EndOf tells %d, %d", which, off)
	}
	if x := epoch.Cut(l, end.Start); !slices.Equal(x, l[:topGen]) {
		t.Errorf("Cut tells %s", brief(x))
	}
	if x := epoch.Trim(l, end.Start-1); !slices.Equal(x, epos(topGen-1, end.Start-1, topGen, end.Start)) {
		t.Errorf("Trim tells %s", brief(x))
	}
	if x := epoch.Of(batchesOf(l)); !slices.Equal(x, l) {
		t.Errorf("Of tells %s", brief(x))
	}
	var even, odd []api.Epo
	for i, x := range l {
		if i == 0 || i%2 == 1 {
			odd = append(odd, x)
		}
		if i%2 == 0 {
			even = append(even, x)
		}
	}
	for range 4 {
		if n := epoch.Meet(even, end.Start+9, odd, end.Start+9); n != 3 {
			t.Errorf("Meet tells %d", n)
		}
		if n := epoch.Meet(l, end.Start+9, l[:1], end.Start+9); n != 3 {
			t.Errorf("Meet tells %d", n)
		}
		even, odd = odd, even
	}
}
