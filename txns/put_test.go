package txns_test

import (
	"fmt"
	"math"
	"math/rand"
	"slices"
	"testing"

	"watermeet/api"
	"watermeet/txns"
)

func TestP12_2PutByHand(t *testing.T) {
	u := three()
	with := func(open []api.Open, gone, done []api.Gone) api.Tx {
		return api.Tx{Open: open, Gone: slices.Concat(u.Gone, gone), Done: slices.Concat(u.Done, done)}
	}
	for i, x := range []struct {
		b    api.Batch
		want api.Tx
	}{
		// Data in a transaction: of a Pid that is open, and of one that is not, ahead of those that are, between them, and behind.
		{data(31, 1, 3), u},
		{data(31, 16, 5), u},
		{data(31, 2, 9), u},
		{data(31, 1, 2), with(opens(2, 31, 3, 30, 5, 12, 9, 20), nil, nil)},
		{data(31, 3, 0), with(opens(0, 31, 3, 30, 5, 12, 9, 20), nil, nil)},
		{data(31, 1, 4), with(opens(3, 30, 4, 31, 5, 12, 9, 20), nil, nil)},
		{data(40, 1, 6), with(opens(3, 30, 5, 12, 6, 40, 9, 20), nil, nil)},
		{data(31, 1, 7), with(opens(3, 30, 5, 12, 7, 31, 9, 20), nil, nil)},
		{data(31, 1, 10), with(opens(3, 30, 5, 12, 9, 20, 10, 31), nil, nil)},
		{data(top, 1, top), with(opens(3, 30, 5, 12, 9, 20, top, top), nil, nil)},
		{bare(data(31, 5, 4)), with(opens(3, 30, 4, 31, 5, 12, 9, 20), nil, nil)},
		// Data in none.
		{nobodys(31, 1), u},
		{nobodys(31, 16), u},
		{sent(31, 1, 3), u},
		{sent(31, 1, 4), u},
		{sent(31, 1, 0), u},
		{sent(31, 1, top), u},
		{bare(nobodys(31, 1)), u},
		// What commits: of a Pid that is open, and of one that is not.
		{commits(31, 3, 0), with(opens(5, 12, 9, 20), nil, endeds(3, 0, 30, 31))},
		{commits(31, 5, 7), with(opens(3, 30, 9, 20), nil, endeds(5, 7, 12, 31))},
		{commits(77, 9, topGen), with(opens(3, 30, 5, 12), nil, endeds(9, topGen, 20, 77))},
		{commits(top, 5, 7), with(opens(3, 30, 9, 20), nil, endeds(5, 7, 12, top))},
		{commits(31, 2, 7), u},
		{commits(31, 4, 7), u},
		{commits(31, 7, 1), u},
		{commits(31, 10, 7), u},
		{commits(31, top, 7), u},
		// What aborts.
		{aborts(31, 3, 0), with(opens(5, 12, 9, 20), endeds(3, 0, 30, 31), nil)},
		{aborts(31, 5, 7), with(opens(3, 30, 9, 20), endeds(5, 7, 12, 31), nil)},
		{aborts(77, 9, topGen), with(opens(3, 30, 5, 12), endeds(9, topGen, 20, 77), nil)},
		{aborts(top, 5, 7), with(opens(3, 30, 9, 20), endeds(5, 7, 12, top), nil)},
		{aborts(31, 0, 7), u},
		{aborts(31, 4, 7), u},
		{aborts(31, 7, 1), u},
		{aborts(31, 10, 7), u},
	} {
		if got, e := puts(t, fmt.Sprint(i), u, x.b); e != api.OK || !same(got, x.want) {
			t.Errorf("%d: Put of %s tells %s, %d, want %s", i, briefly(x.b), brief(got), e, brief(x.want))
		}
	}
}

func TestP12_2PutBehindNothing(t *testing.T) {
	for i, x := range []struct {
		b    api.Batch
		want api.Tx
	}{
		{nobodys(0, 1), api.Tx{}},
		{sent(0, 1, 4), api.Tx{}},
		{commits(0, 4, 1), api.Tx{}},
		{aborts(0, 4, 1), api.Tx{}},
		{data(0, 1, 0), ofOpen(0, 0)},
		{data(5, 3, 4), ofOpen(4, 5)},
		{data(top, 1, top), ofOpen(top, top)},
	} {
		for _, u := range []api.Tx{{}, {Open: []api.Open{}, Gone: []api.Gone{}, Done: []api.Gone{}}} {
			if got, e := puts(t, fmt.Sprint(i), u, x.b); e != api.OK || !same(got, x.want) {
				t.Errorf("%d: Put of %s tells %s, %d, want %s", i, briefly(x.b), brief(got), e, brief(x.want))
			}
		}
	}
}

// kinds are batches of all kinds, of that Base and Pid.
func kinds(base, pid int) []api.Batch {
	return []api.Batch{nobodys(base, 1), sent(base, 1, pid), data(base, 1, pid), commits(base, pid, 2), aborts(base, pid, 2), bare(data(base, 16, pid)), bare(nobodys(base, 16))}
}

// Whatever kind it is, a batch's Base is above the greatest First of Open, and the greatest Last of Gone, and of Done.
func TestP12_2PutInOrder(t *testing.T) {
	for i, x := range []struct {
		t     api.Tx
		reach int
	}{
		{api.Tx{}, -1},
		{ofOpen(4, 0), 0},
		{ofOpen(4, 7), 7},
		{ofOpen(4, 7, 5, 3), 7},
		{ofOpen(4, 3, 5, 7), 7},
		{ofOpen(4, 3, 5, 7, 6, 4), 7},
		{ofGone(5, 0, 0, 1), 1},
		{ofGone(5, 0, 3, 7), 7},
		{ofGone(5, 0, 3, 7, 5, 0, 1, 9), 9},
		{ofDone(5, 0, 3, 7), 7},
		{ofDone(5, 0, 3, 7, 5, 0, 1, 9), 9},
		{three(), 30},
		{api.Tx{Open: opens(3, 10, 5, 12), Gone: endeds(3, 0, 2, 30), Done: endeds(3, 1, 10, 13)}, 30},
		{api.Tx{Open: opens(3, 10, 5, 12), Gone: endeds(3, 0, 2, 9), Done: endeds(3, 1, 10, 30)}, 30},
		{api.Tx{Gone: endeds(3, 0, 2, 9), Done: endeds(3, 1, 10, 30)}, 30},
		{api.Tx{Gone: endeds(3, 0, 2, 9), Done: endeds(3, 1, 2, 9)}, 9},
		{ofOpen(4, top-1), top - 1},
		{ofDone(4, 0, 0, top-1), top - 1},
	} {
		for _, pid := range []int{0, 3, 4, 5, 9, top} {
			for _, base := range []int{0, x.reach - 1, x.reach, x.reach + 1, x.reach + 2} {
				if base < 0 {
					continue
				}
				for _, b := range kinds(base, pid) {
					want := api.OK
					if base <= x.reach {
						want = api.ErrOrder
					}
					if b.Last > top {
						want = api.ErrArg
					}
					got, e := puts(t, fmt.Sprint(i), x.t, b)
					if e != want || e != api.OK && !isNothing(got) {
						t.Errorf("%d: Put of %s behind %s tells %s, %d, want %d", i, briefly(b), brief(x.t), brief(got), e, want)
					}
				}
			}
		}
	}
	// Behind the top offset there is none.
	for i, u := range []api.Tx{ofOpen(4, top), ofGone(4, 0, 3, top), ofDone(4, 0, 3, top)} {
		for _, b := range slices.Concat(kinds(top, 4)[:5], kinds(7, 4), kinds(0, 5)) {
			if got, e := puts(t, fmt.Sprint(i), u, b); e != api.ErrOrder || !isNothing(got) {
				t.Errorf("%d: Put of %s behind %s tells %s, %d", i, briefly(b), brief(u), brief(got), e)
			}
		}
	}
}

func TestP12_2PutWhatMayNotBe(t *testing.T) {
	for _, x := range odds() {
		for _, b := range append(kinds(50, 4), data(top, 1, 5), commits(top, 4, 0)) {
			if got, e := puts(t, x.name, x.t, b); e != api.ErrArg || !isNothing(got) {
				t.Errorf("%s: Put of %s tells %s, %d", x.name, briefly(b), brief(got), e)
			}
		}
	}
	for _, x := range shapes() {
		for name, no := range noBatches(5000, 4) {
			if got, e := puts(t, x.name, x.t, no.b); e != no.e || !isNothing(got) {
				t.Errorf("%s: Put of one with %s tells %s, %d, want %d", x.name, name, brief(got), e, no.e)
			}
		}
	}
}

// Where several things are wrong, Check's error comes first, then batch.Check's, and ErrOrder in the end.
func TestP12_2PutWhichErrorComesFirst(t *testing.T) {
	good, odd := three(), three()
	odd.Done[0].No = -1
	tooMany, wrong := fat(5, 4), data(5, 1, 4)
	wrong.Epoch = -1
	for i, x := range []struct {
		t api.Tx
		b api.Batch
		e api.Errno
	}{
		{odd, fat(50, 4), api.ErrArg},
		{odd, tooMany, api.ErrArg},
		{odd, wrong, api.ErrArg},
		{odd, data(5, 1, 4), api.ErrArg},
		{odd, commits(5, 3, 0), api.ErrArg},
		{good, tooMany, api.ErrBound},
		{good, fat(30, 4), api.ErrBound},
		{good, fat(31, 4), api.ErrBound},
		{good, wrong, api.ErrArg},
		{good, api.Batch{Base: -1, Last: -1, Pid: -1}, api.ErrArg},
		{good, api.Batch{Base: math.MinInt, Last: math.MaxInt, Pid: math.MinInt}, api.ErrArg},
		{good, data(30, 1, 4), api.ErrOrder},
		{good, aborts(30, 3, 4), api.ErrOrder},
		{good, nobodys(0, 1), api.ErrOrder},
	} {
		if got, e := puts(t, fmt.Sprint(i), x.t, x.b); e != x.e || !isNothing(got) {
			t.Errorf("%d: Put of %s behind %s tells %s, %d, want %d", i, briefly(x.b), brief(x.t), brief(got), e, x.e)
		}
	}
}

func TestP12_2PutOfAll(t *testing.T) {
	seen := map[api.Errno]int{}
	for _, x := range slices.Concat(shapes(), odds()) {
		pids := beside(pidsOf(x.t))
		for _, base := range beside(offsetsOf(x.t)) {
			for i, b := range kinds(base, pids[(base%len(pids)+len(pids))%len(pids)]) {
				_, e := puts(t, x.name, x.t, b)
				seen[e]++
				b.Pid = pids[i*7%len(pids)]
				_, e = puts(t, x.name, x.t, b)
				seen[e]++
			}
		}
		for _, pid := range pids {
			for _, b := range kinds(5000, pid) {
				_, e := puts(t, x.name, x.t, b)
				seen[e]++
			}
		}
	}
	r := rand.New(rand.NewSource(124))
	for range 5000 {
		_, e := puts(t, "any", anyTx(r), anyBatch(r, r.Intn(60)))
		seen[e]++
	}
	for _, e := range []api.Errno{api.OK, api.ErrArg, api.ErrOrder} {
		if seen[e] < 1000 {
			t.Errorf("that looks at too little: %v", seen)
		}
	}
}

func TestP12_3OfByHand(t *testing.T) {
	for i, x := range []struct {
		bs   []api.Batch
		want api.Tx
	}{
		{},
		{bs: []api.Batch{}},
		{bs: []api.Batch{nobodys(0, 1), sent(1, 1, 4), commits(2, 4, 0), aborts(3, 5, 1)}},
		{[]api.Batch{data(0, 1, 4)}, ofOpen(4, 0)},
		{[]api.Batch{data(0, 2, 4), data(2, 1, 4), nobodys(3, 1), data(4, 1, 4)}, ofOpen(4, 0)},
		{[]api.Batch{data(0, 1, 4), commits(1, 4, 9)}, ofDone(4, 9, 0, 1)},
		{[]api.Batch{data(0, 1, 4), aborts(1, 4, 9)}, ofGone(4, 9, 0, 1)},
		{[]api.Batch{data(0, 1, 9), data(1, 1, 0), data(2, 1, 5), data(3, 1, top), data(4, 1, 4)}, ofOpen(0, 1, 4, 4, 5, 2, 9, 0, top, 3)},
		// One behind the other of one Pid: what has ended is open no more, and ends once.
		{[]api.Batch{data(0, 1, 4), commits(1, 4, 0), commits(2, 4, 1), aborts(3, 4, 2)}, ofDone(4, 0, 0, 1)},
		{[]api.Batch{data(0, 1, 4), commits(1, 4, 0), data(2, 1, 4)}, api.Tx{Open: opens(4, 2), Done: endeds(4, 0, 0, 1)}},
		{[]api.Batch{data(0, 1, 4), aborts(1, 4, 0), data(2, 1, 4), data(3, 1, 4), commits(4, 4, 0), data(9, 1, 4), aborts(12, 4, 7)},
			api.Tx{Gone: endeds(4, 0, 0, 1, 4, 7, 9, 12), Done: endeds(4, 0, 2, 4)}},
		// Several within one another.
		{[]api.Batch{data(0, 1, 7), data(1, 1, 8), data(2, 1, 3), commits(3, 8, 1), aborts(4, 3, 2), data(5, 1, 8), commits(6, 7, 3)},
			api.Tx{Open: opens(8, 5), Gone: endeds(3, 2, 2, 4), Done: endeds(8, 1, 1, 3, 7, 3, 0, 6)}},
		// The order of those that ended is that of their ends.
		{[]api.Batch{data(0, 1, 1), data(1, 1, 2), data(2, 1, 3), aborts(3, 3, 0), aborts(4, 1, 0), aborts(5, 2, 0)}, ofGone(3, 0, 2, 3, 1, 0, 0, 4, 2, 0, 1, 5)},
		// What does not follow is passed by: at, and below what began last.
		{[]api.Batch{data(5, 1, 4), data(5, 1, 3), data(4, 1, 2), data(6, 1, 1)}, ofOpen(1, 6, 4, 5)},
		{[]api.Batch{data(5, 1, 4), commits(5, 4, 0), aborts(4, 4, 1)}, ofOpen(4, 5)},
		{[]api.Batch{data(5, 1, 4), aborts(4, 4, 1), commits(6, 4, 2)}, ofDone(4, 2, 5, 6)},
		// And at, and below what ended last, though what was open began far below.
		{[]api.Batch{data(5, 1, 4), commits(9, 4, 0), data(9, 1, 3), data(8, 1, 2), data(10, 1, 1)}, api.Tx{Open: opens(1, 10), Done: endeds(4, 0, 5, 9)}},
		{[]api.Batch{data(5, 1, 4), aborts(9, 4, 0), data(9, 1, 3), data(8, 1, 2), data(10, 1, 1)}, api.Tx{Open: opens(1, 10), Gone: endeds(4, 0, 5, 9)}},
		{[]api.Batch{data(5, 1, 4), data(6, 1, 3), commits(9, 4, 0), aborts(9, 3, 0), aborts(8, 3, 1)}, api.Tx{Open: opens(3, 6), Done: endeds(4, 0, 5, 9)}},
		// What alters nothing holds nothing back: others may stand below it.
		{[]api.Batch{data(5, 1, 4), data(30, 1, 4), nobodys(31, 1), sent(32, 1, 4), aborts(33, 3, 1), data(6, 1, 3)}, ofOpen(3, 6, 4, 5)},
		{[]api.Batch{nobodys(31, 1), commits(40, 4, 1), data(0, 1, 4)}, ofOpen(4, 0)},
		{[]api.Batch{data(5, 1, 4), data(30, 1, 4), commits(6, 4, 1)}, ofDone(4, 1, 5, 6)},
	} {
		if got := ofs(t, fmt.Sprint(i), x.bs); !same(got, x.want) {
			t.Errorf("%d: Of %s tells %s, want %s", i, briefly(x.bs...), brief(got), brief(x.want))
		}
	}
}

// Batches that may not be are passed by, and leave no trace.
func TestP12_3OfBatchesThatMayNotBe(t *testing.T) {
	good := []api.Batch{data(100, 2, 4), data(110, 1, 7), commits(120, 4, 2), data(130, 1, 2), aborts(140, 2, 0)}
	want := ofs(t, "good ones", good)
	for at := range len(good) + 1 {
		for _, pid := range []int{2, 4, 5, 7} {
			for name, no := range noBatches(95+10*at, pid) {
				if got := ofs(t, name, slices.Insert(slices.Clone(good), at, no.b)); !same(got, want) {
					t.Errorf("%s, at %d: %s, want %s", name, at, brief(got), brief(want))
				}
				if got := ofs(t, name, []api.Batch{no.b}); !isNothing(got) {
					t.Errorf("%s alone: %s", name, brief(got))
				}
			}
		}
	}
}

// All short lists of batches of a few kinds, in whatever order of their Bases.
func TestP12_3OfAllSmall(t *testing.T) {
	var few []api.Batch
	for base := range 4 {
		few = append(few, bare(data(base, 1, 1)), bare(data(base, 1, 2)), commits(base, 1, base), aborts(base, 1, base), commits(base, 2, base))
	}
	few = append(few, bare(nobodys(2, 1)), bare(sent(3, 1, 1)))
	all := [][]api.Batch{nil}
	for at := 0; at < len(all) && len(all[at]) < 4; at++ {
		for _, b := range few {
			all = append(all, append(slices.Clip(all[at]), b))
		}
	}
	ended := 0
	for _, bs := range all {
		got, want := txns.Of(bs), wordsOf(bs)
		if !same(got, want) {
			t.Errorf("Of %s tells %s, want %s", briefly(bs...), brief(got), brief(want))
		}
		ended += len(got.Gone) + len(got.Done)
	}
	if ended < 10000 {
		t.Errorf("that looks at too little: %d ended", ended)
	}
}

// Of is Put of all, one behind the other.
func TestP12_3OfIsPutOfAll(t *testing.T) {
	r := rand.New(rand.NewSource(125))
	seen := map[api.Errno]int{}
	for range 1500 {
		var bs []api.Batch
		var u api.Tx
		for range r.Intn(50) {
			b := anyBatch(r, max(2*len(bs)+r.Intn(9)-4, 0))
			bs = append(bs, b)
			x, e := puts(t, "any", u, b)
			if e == api.OK {
				u = x
			}
			seen[e]++
		}
		if got := ofs(t, "any", bs); !same(got, u) {
			t.Errorf("Of %s tells %s, Put %s", briefly(bs...), brief(got), brief(u))
		}
	}
	for _, e := range []api.Errno{api.OK, api.ErrArg, api.ErrOrder} {
		if seen[e] < 1000 {
			t.Errorf("that looks at too little: %v", seen)
		}
	}
}

// Very many batches are gone over in about as many steps, in whatever order their Pids come, and however many of them are open.
func TestP12_3OfVeryMany(t *testing.T) {
	const n = 300000
	var bs []api.Batch
	for i := range n {
		bs = append(bs, bare(data(i, 1, n-i)))
	}
	u := txns.Of(bs)
	if len(u.Open) != n || u.Open[0] != (api.Open{Pid: 1, First: n - 1}) || u.Open[n-1] != (api.Open{Pid: n}) || txns.Check(u) != api.OK {
		t.Fatalf("%s", brief(u))
	}
	for i := range n {
		bs = append(bs, ends(n+i, 1+(i*7)%n, i, api.Commit+i%2))
	}
	u = txns.Of(bs)
	if len(u.Open) != 0 || len(u.Gone) != n/2 || len(u.Done) != n/2 || txns.Check(u) != api.OK {
		t.Fatalf("%d, %s", len(u.Open), brief(u))
	}
	if want := endeds(1, 0, n-1, n, 15, 2, n-15, n+2); !slices.Equal(u.Done[:2], want) {
		t.Errorf("%v, want %v", u.Done[:2], want)
	}
}

func TestP12_3TrimByHand(t *testing.T) {
	u := three()
	for i, x := range []struct {
		start int
		want  api.Tx
	}{
		{math.MinInt, u},
		{-1, u},
		{0, u},
		{9, u},
		{10, api.Tx{Open: u.Open, Gone: u.Gone[1:], Done: u.Done}},
		{13, api.Tx{Open: u.Open, Gone: u.Gone[1:], Done: u.Done}},
		{14, api.Tx{Open: u.Open, Gone: u.Gone[1:], Done: u.Done[1:]}},
		{17, api.Tx{Open: u.Open, Gone: u.Gone[1:], Done: u.Done[1:]}},
		{18, api.Tx{Open: u.Open, Done: u.Done[1:]}},
		{19, api.Tx{Open: u.Open}},
		{30, api.Tx{Open: u.Open}},
		{top, api.Tx{Open: u.Open}},
		{math.MaxInt, api.Tx{Open: u.Open}},
	} {
		if got := trims(t, fmt.Sprint(i), u, x.start); !same(got, x.want) {
			t.Errorf("Trim at %d tells %s, want %s", x.start, brief(got), brief(x.want))
		}
	}
	// Whatever is open stays, also what began below; and nothing is asked of whether they may be.
	for _, start := range []int{-1, 0, 5, 6, 100} {
		odd := api.Tx{Open: opens(4, 0, 4, -7, -1, 3), Gone: endeds(-1, -1, 9, 6, 4, 0, 2, 5, 4, 0, 2, 5), Done: endeds(4, 0, 50, 5, 4, 0, 3, 6, 5, 5, 5, -5)}
		if got := trims(t, "odd", odd, start); !slices.Equal(got.Open, odd.Open) {
			t.Errorf("Trim at %d tells %s", start, brief(got))
		}
	}
}

func TestP12_3TrimOfAll(t *testing.T) {
	for _, x := range slices.Concat(shapes(), odds()) {
		for _, start := range beside(offsetsOf(x.t)) {
			got := trims(t, x.name, x.t, start)
			if wordsCheck(x.t) == api.OK && txns.Check(got) != api.OK {
				t.Errorf("%s: Trim at %d tells %s", x.name, start, brief(got))
			}
		}
	}
	r := rand.New(rand.NewSource(126))
	for range 2000 {
		trims(t, "any", anyTx(r), r.Intn(45)-2)
	}
}
