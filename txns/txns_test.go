package txns_test

import (
	"fmt"
	"math"
	"math/rand"
	"slices"
	"testing"

	"watermeet/api"
	"watermeet/txns"
)

func TestExample(t *testing.T) {
	bs := []api.Batch{data(0, 1, 7), data(1, 1, 8), data(2, 1, 7), commits(3, 7, 0), aborts(4, 8, 0)}
	for n, want := range []int{9, 0, 0, 0, 1, 9} {
		if got := stables(t, "example", ofs(t, "example", bs[:n]), 9); got != want {
			t.Errorf("behind %d batches all below %d is stable, want %d", n, got, want)
		}
	}
	u := ofs(t, "example", bs)
	if !same(u, api.Tx{Done: endeds(7, 0, 0, 3), Gone: endeds(8, 0, 1, 4)}) {
		t.Errorf("in the end there is %s", brief(u))
	}
	if got := shows(t, "example", bs, hiddens(t, "example", u, 0, 5), 5); !sameBatches(got, []api.Batch{bs[0], bs[2]}) {
		t.Errorf("in the end %s is shown", briefly(got...))
	}
}

func TestP12_1CheckByHand(t *testing.T) {
	for _, x := range shapes() {
		if e := checks(t, x.name, x.t); e != api.OK {
			t.Errorf("%s: %s is told %d", x.name, brief(x.t), e)
		}
	}
	for _, x := range odds() {
		if e := checks(t, x.name, x.t); e != api.ErrArg {
			t.Errorf("%s: %s is told %d", x.name, brief(x.t), e)
		}
	}
}

// edges are numbers beside the least and the most that something may be.
func edges(most int) []int {
	return []int{math.MinInt, -2, -1, 0, 1, most - 1, most, most + 1, most + 2, math.MaxInt}
}

func within(n, most int) bool { return n >= 0 && n <= most }

func told(ok bool) api.Errno {
	if ok {
		return api.OK
	}
	return api.ErrArg
}

func TestP12_1CheckByLimits(t *testing.T) {
	for _, pid := range edges(top) {
		for _, first := range edges(top) {
			u := ofOpen(pid, first)
			if e := checks(t, "limits", u); e != told(within(pid, top) && within(first, top)) {
				t.Errorf("%s is told %d", brief(u), e)
			}
		}
		for _, no := range edges(topGen) {
			for _, u := range []api.Tx{ofGone(pid, no, 3, 4), ofDone(pid, no, 3, 4)} {
				if e := checks(t, "limits", u); e != told(within(pid, top) && within(no, topGen)) {
					t.Errorf("%s is told %d", brief(u), e)
				}
			}
		}
	}
	for _, last := range append(edges(top), 2, 7, 1<<20) {
		for _, first := range []int{math.MinInt, -2, -1, 0, 1, 2, last - 2, last - 1, last, last + 1, last + 2, math.MaxInt} {
			for _, u := range []api.Tx{ofGone(1, 1, first, last), ofDone(1, 1, first, last)} {
				if e := checks(t, "limits", u); e != told(within(last, top) && first >= 0 && first < last) {
					t.Errorf("%s is told %d", brief(u), e)
				}
			}
		}
	}
}

// Pids of Open rise, and Lasts of Gone, and of Done, whatever stands in the other lists.
func TestP12_1CheckByTheOneAhead(t *testing.T) {
	for _, ahead := range []int{1, 2, 7, top - 2} {
		for by := -2; by <= 2; by++ {
			for _, behind := range []int{ahead + by, ahead + by + 1} {
				is := behind > ahead && within(behind, top)
				if e := checks(t, "two", ofOpen(ahead, 5, behind, 3)); e != told(is) {
					t.Errorf("Pids %d, %d are told %d", ahead, behind, e)
				}
				if behind < 1 {
					continue
				}
				two := endeds(4, 1, 0, ahead, 4, 1, 0, behind)
				one, other := two[:1], two[1:]
				if e := checks(t, "two", api.Tx{Gone: two}); e != told(is) {
					t.Errorf("Lasts %d, %d in Gone are told %d", ahead, behind, e)
				}
				if e := checks(t, "two", api.Tx{Done: two}); e != told(is) {
					t.Errorf("Lasts %d, %d in Done are told %d", ahead, behind, e)
				}
				// In two lists they need not rise, nor be unlike.
				for _, u := range []api.Tx{{Gone: one, Done: other}, {Gone: other, Done: one}, {Gone: other, Done: other}} {
					if e := checks(t, "two", u); e != told(within(behind, top)) {
						t.Errorf("%s is told %d", brief(u), e)
					}
				}
			}
		}
	}
}

// What is told of three hangs on each of them.
func TestP12_1CheckOfAllSmall(t *testing.T) {
	seen := map[api.Errno]int{}
	var open [][]api.Open
	var ended [][]api.Gone
	for a := -1; a <= 2; a++ {
		for b := -1; b <= 2; b++ {
			open = append(open, opens(a, b))
			ended = append(ended, endeds(a, b, b, a+b))
			for c := -1; c <= 2; c++ {
				open = append(open, opens(a, 0, b, c), opens(a, 0, b, 0, c, 0))
				ended = append(ended, endeds(0, 0, 0, a, 1, 1, b, c), endeds(0, 0, 0, a, 1, 1, 0, b, 2, 2, 0, c))
			}
		}
	}
	for _, l := range open {
		seen[checks(t, "small", api.Tx{Open: l})]++
	}
	for _, l := range ended {
		seen[checks(t, "small", api.Tx{Gone: l})]++
		seen[checks(t, "small", api.Tx{Done: l})]++
	}
	for i := range 5000 {
		u := api.Tx{Open: open[i*31%len(open)], Gone: ended[i*17%len(ended)], Done: ended[i*5%len(ended)]}
		seen[checks(t, "small", u)]++
	}
	r := rand.New(rand.NewSource(121))
	for range 3000 {
		seen[checks(t, "any", anyTx(r))]++
	}
	if seen[api.OK] < 3000 || seen[api.ErrArg] < 3000 {
		t.Errorf("that looks at too little: %v", seen)
	}
}

func TestP12_4StableByHand(t *testing.T) {
	for i, x := range []struct {
		t          api.Tx
		high, want int
	}{
		{api.Tx{}, 0, 0},
		{api.Tx{}, 20, 20},
		{api.Tx{}, top, top},
		{api.Tx{}, -3, -3},
		{api.Tx{}, math.MinInt, math.MinInt},
		{api.Tx{}, math.MaxInt, math.MaxInt},
		// Below the First, at it, and above.
		{ofOpen(4, 7), 6, 6},
		{ofOpen(4, 7), 7, 7},
		{ofOpen(4, 7), 8, 7},
		{ofOpen(4, 7), math.MaxInt, 7},
		{ofOpen(4, 7), math.MinInt, math.MinInt},
		{ofOpen(4, 0), 20, 0},
		{ofOpen(4, top), top, top},
		// The least one stands in the middle, in front, and in the end.
		{three(), 11, 11},
		{three(), 12, 12},
		{three(), 13, 12},
		{three(), 31, 12},
		{ofOpen(1, 3, 2, 8, 3, 5), 20, 3},
		{ofOpen(1, 8, 2, 5, 3, 3), 20, 3},
		{ofOpen(1, 8, 2, 8), 20, 8},
		// What has ended holds nothing back.
		{ofGone(4, 2, 7, 9), 20, 20},
		{ofDone(4, 2, 7, 9), 20, 20},
		{api.Tx{Open: opens(4, 15), Gone: endeds(4, 2, 1, 9), Done: endeds(5, 2, 2, 11)}, 20, 15},
		// Nothing is asked of whether they may be.
		{ofOpen(4, -7, -4, 3), 20, -7},
		{ofOpen(4, 9, 4, 5), 20, 5},
	} {
		if got := stables(t, fmt.Sprint(i), x.t, x.high); got != x.want {
			t.Errorf("%d: Stable of %s, %d tells %d, want %d", i, brief(x.t), x.high, got, x.want)
		}
	}
}

func TestP12_4StableOfAll(t *testing.T) {
	for _, x := range slices.Concat(shapes(), odds()) {
		for _, high := range beside(offsetsOf(x.t)) {
			stables(t, x.name, x.t, high)
		}
	}
	r := rand.New(rand.NewSource(122))
	for range 2000 {
		stables(t, "any", anyTx(r), r.Intn(45)-2)
	}
}

func TestP12_4HiddenByHand(t *testing.T) {
	one := ofGone(4, 2, 7, 9)
	u := api.Tx{Open: opens(1, 2), Gone: endeds(3, 0, 2, 9, 7, 1, 5, 17, 8, 0, 18, 20, 3, 1, 10, 25), Done: endeds(9, 9, 0, 30)}
	for i, x := range []struct {
		t        api.Tx
		from, to int
		want     []api.Gone
	}{
		{t: api.Tx{}, from: 0, to: 20},
		// Last one below from, at from, and one above.
		{t: one, from: 10, to: 20},
		{one, 9, 20, one.Gone},
		{one, 8, 20, one.Gone},
		// First one below to, at to, and one above.
		{one, 0, 8, one.Gone},
		{t: one, from: 0, to: 7},
		{t: one, from: 0, to: 6},
		// Both at the edge, and from above to.
		{one, 9, 8, one.Gone},
		{one, 8, 8, one.Gone},
		{t: one, from: 9, to: 7},
		{t: one, from: 10, to: 8},
		{t: one, from: 20, to: 0},
		{one, math.MinInt, math.MaxInt, one.Gone},
		{t: one, from: math.MaxInt, to: math.MaxInt},
		{t: one, from: math.MinInt, to: math.MinInt},
		// Of several those that are so, in order, and none that is open, or was committed.
		{u, 0, 40, u.Gone},
		{u, 9, 19, u.Gone},
		{u, 10, 19, u.Gone[1:]},
		{u, 10, 11, endeds(7, 1, 5, 17, 3, 1, 10, 25)},
		{u, 17, 6, u.Gone[1:2]},
		{u, 0, 10, u.Gone[:2]},
		{u, 18, 18, u.Gone[3:]},
		{t: u, from: 26, to: 40},
		{t: u, from: 0, to: 2},
		{t: ofDone(4, 2, 7, 9), from: 0, to: 20},
		// Nothing is asked of whether they may be: in order is as they stand.
		{ofGone(4, 2, 7, 9, -1, -1, 9, 7, 4, 2, 7, 9), 8, 20, endeds(4, 2, 7, 9, 4, 2, 7, 9)},
		{ofGone(4, 2, 30, 10, -1, -1, 9, 7), 5, 31, endeds(4, 2, 30, 10, -1, -1, 9, 7)},
	} {
		if got := hiddens(t, fmt.Sprint(i), x.t, x.from, x.to); !slices.Equal(got, x.want) {
			t.Errorf("%d: Hidden of %s from %d to %d tells %v, want %v", i, brief(x.t), x.from, x.to, got, x.want)
		}
	}
}

func TestP12_4HiddenOfAll(t *testing.T) {
	for _, x := range slices.Concat(shapes(), odds()) {
		l := beside(offsetsOf(x.t))
		for _, from := range l {
			for _, to := range l {
				hiddens(t, x.name, x.t, from, to)
			}
		}
	}
	r := rand.New(rand.NewSource(123))
	for range 2000 {
		hiddens(t, "any", anyTx(r), r.Intn(45)-2, r.Intn(45)-2)
	}
}

// ofThat is what is told of all transactions, each time anew.
func ofThat(u api.Tx, bs []api.Batch) map[string]func() (api.Tx, []api.Batch) {
	put := func(b api.Batch) func() (api.Tx, []api.Batch) {
		return func() (api.Tx, []api.Batch) { x, _ := txns.Put(u, b); return x, nil }
	}
	pid, end := 3, 0
	if n := len(u.Open); n > 0 {
		pid = u.Open[n/2].Pid
	}
	for _, n := range offsetsOf(u) {
		end = max(end, n+1)
	}
	return map[string]func() (api.Tx, []api.Batch){
		"Put, nobody's":                 put(nobodys(end, 1)),
		"Put, in no transaction":        put(sent(end, 1, pid)),
		"Put, in one":                   put(data(end, 1, pid)),
		"Put, a commit":                 put(commits(end, pid, 4)),
		"Put, an abort":                 put(aborts(end, pid, 4)),
		"Put, in another one, ahead":    put(data(end, 1, max(pid-1, 0))),
		"Put, in another one, behind":   put(data(end, 1, min(pid+1, top))),
		"Put, an abort of what is none": put(aborts(end, min(pid+1, top), 4)),
		"Of":                            func() (api.Tx, []api.Batch) { return txns.Of(bs), nil },
		"Hidden":                        func() (api.Tx, []api.Batch) { return api.Tx{Gone: txns.Hidden(u, 0, 1<<41)}, nil },
		"Show":                          func() (api.Tx, []api.Batch) { return api.Tx{}, txns.Show(bs, u.Gone, 1<<41) },
		"Show of all":                   func() (api.Tx, []api.Batch) { return api.Tx{}, txns.Show(bs, nil, 1<<41) },
		"Trim":                          func() (api.Tx, []api.Batch) { return txns.Trim(u, 8), nil },
		"Trim of nothing":               func() (api.Tx, []api.Batch) { return txns.Trim(u, 0), nil },
	}
}

// log are batches of all kinds, that may be and stand in order.
func log() []api.Batch {
	return []api.Batch{data(0, 2, 7), data(2, 1, 8), nobodys(3, 3), data(6, 1, 7), sent(7, 2, 7), commits(9, 7, 3), data(10, 1, 7), bare(data(11, 4, 3)), aborts(15, 8, 0), aborts(16, 9, 1), sent(17, 1, 8), data(18, 1, 8)}
}

// Who writes into what is told, or behind it, changes nothing that was handed in, or told ahead of it.
func TestWhatIsToldIsNew(t *testing.T) {
	for _, x := range shapes() {
		u, bs := roomy(x.t), log()
		calls := ofThat(u, bs)
		for name, call := range calls {
			ahead, aheadBatches := call()
			was, wasAhead, wasBatches := room(u), room(ahead), copies(aheadBatches)
			got, gotBatches := call()
			scribble(got)
			scribbleBatches(gotBatches)
			if !same(room(u), was) || !sameBatches(bs, log()) {
				t.Errorf("%s: %s: what was handed in changes with what is told", x.name, name)
			}
			if !same(room(ahead), wasAhead) || !sameBatches(aheadBatches, wasBatches) {
				t.Errorf("%s: %s: what was told changes with what is told next", x.name, name)
			}
		}
	}
}

// What is told stays as it is when what was handed in does not, and whatever is then done with it.
func TestWhatIsToldStays(t *testing.T) {
	for _, x := range shapes() {
		u, bs := roomy(x.t), log()
		type is struct {
			name      string
			t, was    api.Tx
			bs, wasBs []api.Batch
		}
		var all []is
		for name, call := range ofThat(u, bs) {
			got, gotBatches := call()
			all = append(all, is{name, got, copied(got), gotBatches, copies(gotBatches)})
		}
		scribble(u)
		scribbleBatches(bs)
		for _, y := range all {
			for _, call := range ofThat(y.t, y.bs) {
				call()
			}
			if !same(y.t, y.was) || !sameBatches(y.bs, y.wasBs) {
				t.Errorf("%s: %s changes with what was handed in, or with what is told of it", x.name, y.name)
			}
		}
	}
}

// Within what is told each list has memory of its own, also behind its end.
func TestWhatIsToldSharesNothing(t *testing.T) {
	shared := three()
	shared.Done = shared.Gone
	for _, u := range []api.Tx{three(), shared, many(40)} {
		for name, call := range ofThat(u, log()) {
			got, _ := call()
			was := copied(got)
			scribble(api.Tx{Open: got.Open})
			if !slices.Equal(got.Gone, was.Gone) || !slices.Equal(got.Done, was.Done) {
				t.Errorf("%s: what has ended changes with what is open", name)
			}
			scribbleEnded(got.Gone)
			if !slices.Equal(got.Done, was.Done) {
				t.Errorf("%s: Done changes with Gone", name)
			}
		}
	}
	// Of batches that share their records.
	b := data(5, 3, 7)
	got := txns.Show([]api.Batch{b, b}, nil, 9)
	was := copies(got)
	scribbleBatches(got[:1:1])
	if !sameBatches(got[1:], was[1:]) {
		t.Error("Show: the second batch changes with the first one")
	}
}
