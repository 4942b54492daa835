package txns_test

import (
	"fmt"
	"math"
	"math/rand"
	"slices"
	"testing"

	"watermeet/api"
	"watermeet/txns"
)

func TestP12_5ShowByHand(t *testing.T) {
	bs := log()
	pick := func(l ...int) []api.Batch {
		var x []api.Batch
		for _, i := range l {
			x = append(x, bs[i])
		}
		return x
	}
	for i, x := range []struct {
		l    []api.Gone
		to   int
		want []api.Batch
	}{
		{nil, 30, pick(0, 1, 2, 3, 4, 6, 7, 10, 11)},
		{nil, math.MaxInt, pick(0, 1, 2, 3, 4, 6, 7, 10, 11)},
		{nil, 0, nil},
		{nil, -1, nil},
		{nil, math.MinInt, nil},
		// Last at to, and one below it.
		{nil, 1, nil},
		{nil, 2, pick(0)},
		{nil, 14, pick(0, 1, 2, 3, 4, 6)},
		{nil, 15, pick(0, 1, 2, 3, 4, 6, 7)},
		{nil, 18, pick(0, 1, 2, 3, 4, 6, 7, 10)},
		{nil, 19, pick(0, 1, 2, 3, 4, 6, 7, 10, 11)},
		// Of what has ended none is shown, but what is in no transaction.
		{endeds(8, 0, 2, 15), 30, pick(0, 2, 3, 4, 6, 7, 10, 11)},
		{endeds(7, 3, 0, 9), 30, pick(1, 2, 4, 6, 7, 10, 11)},
		{endeds(7, 3, 0, 11), 30, pick(1, 2, 4, 7, 10, 11)},
		{endeds(7, 3, 0, 9, 8, 0, 2, 15), 30, pick(2, 4, 6, 7, 10, 11)},
		{endeds(8, 0, 0, 99, 7, 3, 0, 99, 3, 0, 0, 99), 30, pick(2, 4, 10)},
		// Of other ones nothing is left out.
		{endeds(9, 1, 0, 16), 30, pick(0, 1, 2, 3, 4, 6, 7, 10, 11)},
		{endeds(6, 1, 0, 99, 2, 1, 0, 99, 4, 1, 0, 99, 10, 0, 0, 99), 30, pick(0, 1, 2, 3, 4, 6, 7, 10, 11)},
		{endeds(-1, 0, 0, 99), 30, pick(0, 1, 2, 3, 4, 6, 7, 10, 11)},
		// Both.
		{endeds(7, 3, 0, 9), 7, pick(1, 2)},
	} {
		if got := shows(t, fmt.Sprint(i), bs, x.l, x.to); !sameBatches(got, x.want) {
			t.Errorf("%d: without %v to %d tells %s, want %s", i, x.l, x.to, briefly(got...), briefly(x.want...))
		}
	}
	for _, none := range [][]api.Batch{nil, {}, {commits(3, 7, 0)}, {aborts(3, 7, 0), commits(4, 8, 2)}} {
		if got := shows(t, "none", none, endeds(7, 3, 0, 9), 30); len(got) != 0 {
			t.Errorf("of %s tells %s", briefly(none...), briefly(got...))
		}
	}
}

// A batch is of one that has ended by its Base alone: from its First on, and below its Last.
func TestP12_5ShowByFirstAndLast(t *testing.T) {
	l := endeds(7, 3, 20, 30)
	for base, want := range map[int]bool{0: true, 18: true, 19: true, 20: false, 21: false, 25: false, 28: false, 29: false, 30: true, 31: true, 99: true} {
		for _, many := range []int{1, 2, 16} {
			b := data(base, many, 7)
			if got := shows(t, "alone", []api.Batch{b}, l, 200); (len(got) == 1) != want {
				t.Errorf("%s is shown: %v, want %v", briefly(b), len(got) == 1, want)
			}
			for _, b := range []api.Batch{sent(base, many, 7), nobodys(base, many), data(base, many, 6), data(base, many, 8)} {
				if got := shows(t, "others", []api.Batch{b}, l, 200); len(got) != 1 {
					t.Errorf("%s is not shown", briefly(b))
				}
			}
			for _, b := range []api.Batch{commits(base, 7, 3), aborts(base, 7, 3), commits(base, 8, 3)} {
				if got := shows(t, "ends", []api.Batch{b}, l, 200); len(got) != 0 {
					t.Errorf("%s is shown", briefly(b))
				}
			}
		}
	}
	for _, x := range [][]api.Gone{endeds(7, 3, 30, 30), endeds(7, 3, 31, 30), endeds(7, 3, math.MaxInt, math.MinInt)} {
		for _, base := range []int{0, 29, 30, 31, 99} {
			if got := shows(t, "empty", []api.Batch{data(base, 1, 7)}, x, 200); len(got) != 1 {
				t.Errorf("without %v at %d none is shown", x, base)
			}
		}
	}
	if got := shows(t, "all", []api.Batch{data(0, 1, 7), data(top, 1, 7)}, endeds(7, 0, math.MinInt, math.MaxInt), math.MaxInt); len(got) != 0 {
		t.Errorf("shown is %s", briefly(got...))
	}
}

// One Pid has several that have ended: one behind the other, apart, within one another, in whatever order they stand.
func TestP12_5ShowOfOnePid(t *testing.T) {
	var bs []api.Batch
	for i := range 40 {
		bs = append(bs, data(i, 1, 7))
	}
	for i, l := range [][]api.Gone{
		endeds(7, 0, 3, 9, 7, 1, 9, 14),
		endeds(7, 0, 3, 9, 7, 1, 10, 14),
		endeds(7, 0, 3, 9, 7, 1, 8, 14),
		endeds(7, 0, 3, 9, 7, 1, 20, 24, 7, 2, 30, 31),
		endeds(7, 0, 3, 30, 7, 1, 9, 14),
		endeds(7, 0, 3, 30, 7, 1, 9, 14, 7, 2, 16, 18, 7, 3, 35, 37),
		endeds(7, 0, 3, 14, 7, 1, 3, 30),
		endeds(7, 0, 3, 30, 7, 1, 3, 14, 7, 2, 3, 3),
		endeds(7, 0, 3, 14, 7, 0, 3, 14),
		endeds(7, 0, 3, 14, 7, 1, 20, 10, 7, 2, 25, 26),
		endeds(6, 0, 0, 99, 7, 0, 3, 9, 8, 1, 0, 99, 7, 1, 20, 24),
		endeds(6, 0, 0, 99, 7, 0, 30, 35, 8, 1, 0, 99, 7, 1, 2, 4, 6, 1, 50, 60),
		endeds(7, 0, 0, 1, 7, 1, 1, 2, 7, 2, 2, 3, 7, 3, 4, 5, 7, 4, 5, 6),
	} {
		for range len(l) {
			want := 0
			for _, b := range bs {
				if !slices.ContainsFunc(l, func(g api.Gone) bool { return wordsIsOf(b, g) }) {
					want++
				}
			}
			if got := shows(t, fmt.Sprint(i), bs, l, 99); len(got) != want {
				t.Errorf("%d: without %v %d are shown, want %d", i, l, len(got), want)
			}
			l = append(l[1:], l[0])
		}
	}
}

// Nothing is asked of batches, nor of what has ended, but what stands in the words: they may be whatever they are, in whatever order.
func TestP12_5ShowOfWhatMayNotBe(t *testing.T) {
	bs := []api.Batch{
		{Base: 9, Last: 3, Pid: 7, Txn: true},
		{Base: -5, Last: -5, Pid: 7, Txn: true},
		{Base: 9, Last: 9, Pid: -1, Txn: true},
		{Base: 9, Last: 9, Pid: -7, Txn: true, Epoch: -1},
		{Base: 9, Last: 9, Pid: 7, Txn: true, Ctl: 3},
		{Base: 9, Last: 9, Pid: 7, Txn: true, Ctl: -1},
		{Base: 9, Last: 9, Pid: 7, Ctl: api.Commit},
		{Base: 9, Last: 9, Pid: math.MaxInt, Txn: true, Recs: make([]api.Rec, 40)},
		{Base: math.MaxInt, Last: math.MinInt, Pid: 7, Txn: true},
		{Base: 2, Last: 500, Pid: 7, Txn: true, Recs: []api.Rec{{Off: -3, Stamp: -1}}},
		{Base: 9, Last: 3, Pid: 7, Txn: true},
	}
	for _, no := range noBatches(9, 7) {
		bs = append(bs, no.b)
	}
	slices.SortFunc(bs, func(a, b api.Batch) int { return a.Last - b.Last })
	for i, l := range [][]api.Gone{
		nil,
		endeds(7, 0, 0, 10),
		endeds(7, 0, -9, 0),
		endeds(7, -1, -9, 99, -7, 0, 0, 99, -1, 0, 0, 99),
		endeds(math.MaxInt, 0, 9, 10, math.MinInt, 0, 0, 10),
		endeds(7, 0, 9, 9, 7, 0, 10, 3, 7, 5, 10, 3),
		endeds(7, 0, math.MinInt, math.MaxInt),
	} {
		for _, to := range []int{math.MinInt, -5, -4, 0, 3, 4, 9, 10, 500, 501, math.MaxInt} {
			shows(t, fmt.Sprint(i), bs, l, to)
		}
	}
}

func TestP12_5ShowOfAllSmall(t *testing.T) {
	var bs []api.Batch
	for base := range 5 {
		bs = append(bs, bare(data(base, 1, 1)), bare(data(base, 2, 1)), bare(data(base, 1, 2)), commits(base, 1, 0), bare(sent(base, 1, 1)))
	}
	var one []api.Gone
	for first := -1; first <= 4; first++ {
		for last := first - 1; last <= 5; last++ {
			one = append(one, api.Gone{Pid: 1, First: first, Last: last})
			if first%2 == 0 {
				one = append(one, api.Gone{Pid: 2, First: first, Last: last})
			}
		}
	}
	shown := 0
	for _, a := range one {
		for _, b := range one {
			for _, c := range one {
				l := []api.Gone{a, b, c}
				got, want := txns.Show(bs, l, 5), wordsShow(bs, l, 5)
				if !sameBatches(got, want) {
					t.Errorf("without %v tells %s, want %s", l, briefly(got...), briefly(want...))
				}
				shown += len(got)
			}
		}
	}
	if shown < 100000 {
		t.Errorf("that looks at too little: %d shown", shown)
	}
}

func TestP12_5ShowOfAny(t *testing.T) {
	r := rand.New(rand.NewSource(127))
	for range 3000 {
		var bs []api.Batch
		for range r.Intn(30) {
			bs = append(bs, anyBatch(r, r.Intn(50)))
		}
		u := anyTx(r)
		l := slices.Concat(u.Done, u.Gone)
		r.Shuffle(len(l), func(i, k int) { l[i], l[k] = l[k], l[i] })
		shows(t, "any", bs, l, r.Intn(60)-2)
	}
}

// Very many batches, beside very many that have ended, take about as many steps as there are of both.
func TestP12_5ShowOfVeryMany(t *testing.T) {
	const n = 200000
	var bs []api.Batch
	var l []api.Gone
	for i := range n {
		bs = append(bs, bare(data(3*i, 1, 7)), bare(data(3*i+1, 1, 7)))
		l = append(l, api.Gone{Pid: 7, No: i, First: 3 * i, Last: 3*i + 1})
	}
	got := txns.Show(bs, l, 3*n-2)
	if len(got) != n-1 {
		t.Fatalf("%d are shown", len(got))
	}
	for i, b := range got {
		if b.Base != 3*i+1 {
			t.Fatalf("%d is shown at %d", b.Base, i)
		}
	}
}
