package seqs_test

import (
	"fmt"
	"math"
	"math/rand"
	"slices"
	"testing"

	"watermeet/api"
	"watermeet/seqs"
)

func TestExample(t *testing.T) {
	first := sent(3, 0, 0, 0, 2)
	if base, there, e := looks(t, "none", nil, first); base != 0 || there || e != api.OK {
		t.Errorf("the first one is told %d, %v, %d", base, there, e)
	}
	l, e := puts(t, "none", nil, first)
	if e != api.OK {
		t.Fatalf("it is put with %d", e)
	}
	if base, there, e := looks(t, "behind it", l, sent(3, 0, 0, 9, 2)); base != 0 || !there || e != api.OK {
		t.Errorf("the same one is told %d, %v, %d", base, there, e)
	}
	if base, there, e := looks(t, "behind it", l, sent(3, 0, 2, 2, 1)); base != 0 || there || e != api.OK {
		t.Errorf("that of Seq 2 is told %d, %v, %d", base, there, e)
	}
	if base, there, e := looks(t, "behind it", l, sent(3, 0, 3, 2, 1)); base != 0 || there || e != api.ErrSeq {
		t.Errorf("that of Seq 3 is told %d, %v, %d", base, there, e)
	}
	if l, e = puts(t, "behind it", l, sent(3, 1, 0, 2, 1)); e != api.OK {
		t.Fatalf("Gen 1 is put with %d", e)
	}
	for _, seq := range []int{0, 1, 2} {
		if base, there, e := looks(t, "behind Gen 1", l, sent(3, 0, seq, 0, 2)); base != 0 || there || e != api.ErrFence {
			t.Errorf("that of Gen 0 and Seq %d is told %d, %v, %d", seq, base, there, e)
		}
	}
}

func TestP11_1CheckByHand(t *testing.T) {
	for _, x := range shapes() {
		if e := checks(t, x.name, x.l); e != api.OK {
			t.Errorf("%s: %s is told %d", x.name, brief(x.l), e)
		}
	}
	for _, x := range odds() {
		if e := checks(t, x.name, x.l); e != api.ErrArg {
			t.Errorf("%s: %s is told %d", x.name, brief(x.l), e)
		}
	}
	for _, x := range crowds() {
		if e := checks(t, x.name, x.l); e != api.ErrBound {
			t.Errorf("%s: %s is told %d", x.name, brief(x.l), e)
		}
	}
}

// edges are numbers beside the least and the most that something may be.
func edges(most int) []int {
	return []int{math.MinInt, -2, -1, 0, 1, most - 1, most, most + 1, most + 2, math.MaxInt}
}

func TestP11_1CheckByLimits(t *testing.T) {
	within := func(n, most int) bool { return n >= 0 && n <= most }
	want := func(ok bool) api.Errno {
		if ok {
			return api.OK
		}
		return api.ErrArg
	}
	for _, pid := range edges(top) {
		for _, gen := range edges(topGen) {
			l := prods(prod(pid, gen, 0, 0, 0))
			if e := checks(t, "limits", l); e != want(within(pid, top) && within(gen, topGen)) {
				t.Errorf("%s is told %d", brief(l), e)
			}
		}
	}
	for _, seq := range edges(topGen) {
		for _, last := range edges(topGen) {
			for _, base := range edges(top) {
				l := prods(prod(1, 1, seq, last, base))
				if e := checks(t, "limits", l); e != want(within(seq, topGen) && within(last, topGen) && seq <= last && within(base, top)) {
					t.Errorf("%s is told %d", brief(l), e)
				}
			}
		}
	}
	for many := range 9 {
		l := prods(prod(1, 1, steps(topGen-20, many)...))
		if e := checks(t, "so many", l); e != want(many <= 5) {
			t.Errorf("%s is told %d", brief(l), e)
		}
	}
	for _, many := range []int{0, 1, 2, most - 1, most} {
		if e := checks(t, "so many", steady(many, 0, 1)); e != api.OK {
			t.Errorf("%d producers are told %d", many, e)
		}
	}
}

func TestP11_1CheckByTheOneAhead(t *testing.T) {
	for _, ahead := range []int{0, 1, 7, top - 2} {
		for by := -2; by <= 2; by++ {
			l := prods(prod(ahead, 1), prod(ahead+by, 1))
			if e := checks(t, "two", l); (e == api.OK) != (by > 0) {
				t.Errorf("%s is told %d", brief(l), e)
			}
		}
	}
	for _, at := range []int{0, 1, 7, topGen - 5, topGen - 3} {
		for by := -3; by <= 4; by++ {
			l := prods(prod(1, 1, at, at+1, 5, at+by, max(at+by, at+1), 5))
			if e := checks(t, "two", l); (e == api.OK) != (by == 2) {
				t.Errorf("%s is told %d", brief(l), e)
			}
		}
	}
}

func TestP11_1CheckOfAll(t *testing.T) {
	told := map[api.Errno]int{}
	r := rand.New(rand.NewSource(111))
	for range 20000 {
		l := anyProds(r)
		told[checks(t, "any", l)]++
		l = spoilt(r, l)
		told[checks(t, "any, spoilt", l)]++
	}
	if told[api.OK] < 10000 || told[api.ErrArg] < 10000 {
		t.Errorf("that looks at too little: %v", told)
	}
}

// spoilt are producers of which one number is another one, or one that stands twice, or elsewhere.
func spoilt(r *rand.Rand, l []api.Prod) []api.Prod {
	l = copied(l)
	if len(l) == 0 {
		return prods(prod(-1, 0))
	}
	p := &l[r.Intn(len(l))]
	by := r.Intn(5) - 2
	switch kind := r.Intn(7); {
	case kind == 0:
		p.Pid += by
	case kind == 1:
		p.Gen -= r.Intn(5)
	case kind == 2:
		l = append(l, l[r.Intn(len(l))])
	case len(p.Did) == 0:
		p.Did = did(0, -1, 0)
	case kind == 3:
		p.Did[r.Intn(len(p.Did))].Seq += by
	case kind == 4:
		p.Did[r.Intn(len(p.Did))].Last += by
	case kind == 5:
		p.Did[r.Intn(len(p.Did))].Base = edges(top)[r.Intn(10)]
	default:
		d := p.Did[len(p.Did)-1]
		p.Did = append(p.Did, api.Did{Seq: d.Last + 1, Last: d.Last + 1})
	}
	return l
}

// three are producers that batches meet by hand: one with five batches, one with none, one with one.
func three() []api.Prod {
	return prods(five(3, 2), prod(5, 4), prod(9, 0, 0, 1, 33))
}

func TestP11_2LookByHand(t *testing.T) {
	l := three()
	for i, x := range []struct {
		b     api.Batch
		base  int
		there bool
		e     api.Errno
	}{
		// Nobody's.
		{b: nobodys(0)},
		{b: nobodys(top)},
		{b: sent(-1, 0, 0, 40, 16)},
		// A Gen below the producer's, of whatever kind.
		{b: sent(3, 1, 15, 40, 1), e: api.ErrFence},
		{b: sent(3, 1, 0, 40, 1), e: api.ErrFence},
		{b: sent(3, 1, 3, 40, 1), e: api.ErrFence},
		{b: sent(3, 0, 99, 40, 1), e: api.ErrFence},
		{b: ends(3, 1, 40, api.Commit), e: api.ErrFence},
		{b: ends(3, 0, 40, api.Abort), e: api.ErrFence},
		{b: sent(5, 3, 0, 40, 1), e: api.ErrFence},
		{b: sent(5, 0, 7, 40, 1), e: api.ErrFence},
		{b: ends(5, 3, 40, api.Abort), e: api.ErrFence},
		// No Data, of a Gen at and above the producer's, and of one that is not there, whatever its Seq is.
		{b: ends(3, 2, 40, api.Commit)},
		{b: ends(3, 2, 40, api.Abort)},
		{b: ends(3, 3, 40, api.Abort)},
		{b: ends(5, 4, 40, api.Commit)},
		{b: ends(4, 0, 40, api.Commit)},
		{b: ofSeq(ends(3, 2, 40, api.Commit), 3)},
		{b: ofSeq(ends(3, 2, 40, api.Commit), 99)},
		{b: ofSeq(ends(4, 0, 40, api.Abort), 99)},
		// None, a Gen below the batch's, no batches: from 0 on.
		{b: sent(4, 0, 0, 40, 1)},
		{b: sent(4, 7, 0, 40, 16)},
		{b: sent(4, 0, 1, 40, 1), e: api.ErrSeq},
		{b: sent(0, topGen, 1, 40, 1), e: api.ErrSeq},
		{b: sent(top, 0, 5, 40, 1), e: api.ErrSeq},
		{b: sent(3, 3, 0, 40, 1)},
		{b: sent(3, topGen, 0, 40, 1)},
		{b: sent(3, 3, 1, 40, 1), e: api.ErrSeq},
		{b: sent(3, 3, 15, 40, 1), e: api.ErrSeq},
		{b: sent(3, 3, 9, 40, 1), e: api.ErrSeq},
		{b: sent(5, 4, 0, 40, 1)},
		{b: sent(5, 4, 1, 40, 1), e: api.ErrSeq},
		{b: sent(5, 5, 0, 40, 2)},
		{b: sent(5, 5, 2, 40, 2), e: api.ErrSeq},
		// Each of those that are there, wherever it is to be written this time.
		{b: sent(3, 2, 3, 40, 1), base: 7, there: true},
		{b: sent(3, 2, 4, 40, 3), base: 8, there: true},
		{b: sent(3, 2, 7, 0, 2), base: 20, there: true},
		{b: sent(3, 2, 9, 30, 1), base: 30, there: true},
		{b: sent(3, 2, 10, 40, 5), base: 31, there: true},
		{b: sent(9, 0, 0, 40, 2), base: 33, there: true},
		// Another Last, or Seq.
		{b: sent(3, 2, 3, 40, 2), e: api.ErrSeq},
		{b: sent(3, 2, 4, 40, 2), e: api.ErrSeq},
		{b: sent(3, 2, 4, 40, 4), e: api.ErrSeq},
		{b: sent(3, 2, 5, 40, 2), e: api.ErrSeq},
		{b: sent(3, 2, 10, 40, 4), e: api.ErrSeq},
		{b: sent(3, 2, 10, 40, 6), e: api.ErrSeq},
		{b: sent(3, 2, 11, 40, 4), e: api.ErrSeq},
		{b: sent(3, 2, 14, 40, 1), e: api.ErrSeq},
		{b: sent(3, 2, 2, 40, 1), e: api.ErrSeq},
		{b: sent(3, 2, 2, 40, 2), e: api.ErrSeq},
		{b: sent(3, 2, 0, 40, 1), e: api.ErrSeq},
		{b: sent(9, 0, 0, 40, 1), e: api.ErrSeq},
		{b: sent(9, 0, 1, 40, 1), e: api.ErrSeq},
		// The one that follows, and above it.
		{b: sent(3, 2, 15, 40, 1)},
		{b: sent(3, 2, 15, 40, 16)},
		{b: sent(3, 2, 16, 40, 1), e: api.ErrSeq},
		{b: sent(3, 2, topGen, 40, 1), e: api.ErrSeq},
		{b: sent(9, 0, 2, 40, 1)},
		{b: sent(9, 0, 3, 40, 1), e: api.ErrSeq},
	} {
		base, there, e := looks(t, fmt.Sprint(i), l, x.b)
		if base != x.base || there != x.there || e != x.e {
			t.Errorf("%d: %s is told %d, %v, %d, want %d, %v, %d", i, briefly(x.b), base, there, e, x.base, x.there, x.e)
		}
	}
}

// Behind the greatest number nothing follows: numbers do not go round.
func TestP11_2LookAtTheTop(t *testing.T) {
	l := prods(prod(5, topGen, topGen-3, topGen-1, 8, topGen, topGen, top), prod(top, 1, topGen-2, topGen-1, 7))
	for i, x := range []struct {
		b     api.Batch
		base  int
		there bool
		e     api.Errno
	}{
		{b: sent(5, topGen, topGen, 0, 1), base: top, there: true},
		{b: sent(5, topGen, topGen-3, 0, 3), base: 8, there: true},
		{b: sent(5, topGen, 0, 0, 1), e: api.ErrSeq},
		{b: sent(5, topGen, topGen-1, 0, 1), e: api.ErrSeq},
		{b: sent(5, topGen, topGen-1, 0, 2), e: api.ErrSeq},
		{b: sent(5, topGen, topGen+1, 0, 1), e: api.ErrArg},
		{b: sent(5, topGen, topGen, 0, 2), e: api.ErrArg},
		{b: sent(5, topGen+1, 0, 0, 1), e: api.ErrArg},
		{b: sent(5, topGen-1, 0, 0, 1), e: api.ErrFence},
		{b: sent(top, 1, topGen, 0, 1)},
		{b: sent(top, 1, topGen, top, 1)},
		{b: sent(top, 1, topGen, 0, 2), e: api.ErrArg},
		{b: sent(top, 1, topGen-1, 0, 1), e: api.ErrSeq},
		{b: sent(top, 2, 0, 0, 1)},
		{b: sent(top+1, 2, 0, 0, 1), e: api.ErrArg},
	} {
		base, there, e := looks(t, fmt.Sprint(i), l, x.b)
		if base != x.base || there != x.there || e != x.e {
			t.Errorf("%d: %s is told %d, %v, %d, want %d, %v, %d", i, briefly(x.b), base, there, e, x.base, x.there, x.e)
		}
	}
}

// What a batch is besides its numbers, and how many of its records are left, is not asked.
func TestP11_2LookAsksForNothingElse(t *testing.T) {
	l := three()
	for i, change := range []func(b *api.Batch){
		func(b *api.Batch) { b.Recs = nil },
		func(b *api.Batch) { b.Recs = b.Recs[1:2] },
		func(b *api.Batch) { b.Txn = true },
		func(b *api.Batch) { b.Epoch = 77 },
		func(b *api.Batch) { b.From = 9 },
		func(b *api.Batch) { b.Recs[0].Val = "other" },
	} {
		b := sent(3, 2, 4, 40, 3)
		change(&b)
		if base, there, e := looks(t, fmt.Sprint(i), l, b); base != 8 || !there || e != api.OK {
			t.Errorf("%d: it is told %d, %v, %d", i, base, there, e)
		}
		b = sent(3, 2, 15, 40, 3)
		change(&b)
		if base, there, e := looks(t, fmt.Sprint(i), l, b); base != 0 || there || e != api.OK {
			t.Errorf("%d: what follows is told %d, %v, %d", i, base, there, e)
		}
	}
}

// Where several things are wrong, the producers come first, in Check's order, then the batch, then its Gen, then its Seq; behind these, in Put, that there are too many.
func TestWhichErrorComesFirst(t *testing.T) {
	full := steady(most, 1, 2)
	for _, x := range crowds() {
		for name, no := range noBatches(3) {
			both(t, x.name+", "+name, x.l, no.b, api.ErrBound)
		}
		for _, b := range []api.Batch{nobodys(0), sent(2, 0, 0, 0, 1), sent(2, 0, 5, 0, 1), ends(3, 0, 0, api.Commit)} {
			both(t, x.name, x.l, b, api.ErrBound)
		}
	}
	for _, x := range odds() {
		for name, no := range noBatches(4) {
			both(t, x.name+", "+name, x.l, no.b, api.ErrArg)
		}
		for _, b := range []api.Batch{nobodys(0), sent(4, 0, 0, 0, 1), sent(4, 1, 5, 0, 1), sent(99, 0, 0, 0, 1), sent(99, 0, 7, 0, 1), fat(4, 0, 0, 0), ends(4, 0, 0, api.Commit)} {
			both(t, x.name, x.l, b, api.ErrArg)
		}
	}
	for name, no := range noBatches(3) {
		for _, l := range [][]api.Prod{nil, three(), prods(prod(3, topGen)), full} {
			both(t, name, l, no.b, no.e)
		}
	}
	// A batch with too many bytes, of a Gen that is gone by, or a Seq that does not follow.
	both(t, "too many bytes, and fenced", prods(prod(3, 5)), fat(3, 1, 0, 0), api.ErrBound)
	both(t, "too many bytes, and out of order", three(), fat(3, 2, 99, 0), api.ErrBound)
	both(t, "too many bytes, without form", three(), ofSeq(fat(3, 2, 0, 0), -1), api.ErrArg)
	both(t, "fenced, and out of order", three(), sent(3, 1, 99, 0, 1), api.ErrFence)
	both(t, "fenced, and there", three(), sent(3, 1, 9, 0, 1), api.ErrFence)

	if _, e := puts(t, "too many, and out of order", full, sent(4, 0, 1, 0, 1)); e != api.ErrSeq {
		t.Errorf("too many, and out of order: %d", e)
	}
	if _, e := puts(t, "too many", full, sent(4, 0, 0, 0, 1)); e != api.ErrBound {
		t.Errorf("too many: %d", e)
	}
}

// both fails unless Look and Put tell that error.
func both(t *testing.T, name string, l []api.Prod, b api.Batch, want api.Errno) {
	t.Helper()
	if _, _, e := looks(t, name, l, b); e != want {
		t.Errorf("%s: Look tells %d, want %d", name, e, want)
	}
	if _, e := puts(t, name, l, b); e != want {
		t.Errorf("%s: Put tells %d, want %d", name, e, want)
	}
}

func TestP11_2And3OfShapes(t *testing.T) {
	told := map[api.Errno]int{}
	found := 0
	for _, x := range shapes() {
		for i, b := range batchesBeside(x.l) {
			if len(x.l) > 100 && i%11 > 0 {
				continue
			}
			_, there, e := looks(t, x.name, x.l, b)
			puts(t, x.name, x.l, b)
			told[e]++
			if there {
				found++
			}
		}
		for name, no := range noBatches(3) {
			if _, _, e := looks(t, x.name+", "+name, x.l, no.b); e != no.e {
				t.Errorf("%s, %s: %d", x.name, name, e)
			}
			puts(t, x.name+", "+name, x.l, no.b)
		}
	}
	for _, e := range []api.Errno{api.OK, api.ErrArg, api.ErrFence, api.ErrSeq} {
		if told[e] < 300 || found < 100 {
			t.Errorf("that looks at too little: %v, %d", told, found)
		}
	}
}

// Of three Pids, each with or without a producer of one of few kinds, each batch of few numbers.
func TestP11_2And3OfAllSmall(t *testing.T) {
	dids := [][]api.Did{nil, did(0, 0, 5), did(1, 2, 6), did(0, 1, 7, 2, 2, 8), did(0, 0, 1, 1, 1, 2, 2, 2, 3, 3, 3, 4, 4, 4, 5)}
	for _, l := range smallProds(3, []int{0, 1}, dids) {
		for pid := -1; pid <= 3; pid++ {
			for gen := range 3 {
				small(t, l, ends(pid, gen, 9, api.Commit))
				for seq := range 6 {
					small(t, l, sent(pid, gen, seq, 9, 1))
					small(t, l, sent(pid, gen, seq, 9, 2))
				}
			}
		}
	}
}

// small holds Look and Put against the words, without looking at what was handed in.
func small(t *testing.T, l []api.Prod, b api.Batch) {
	base, there, e := seqs.Look(l, b)
	if want, wantThere, wantE := wordsLook(l, b); base != want || there != wantThere || e != wantE {
		t.Errorf("Look of %s in %s tells %d, %v, %d, want %d, %v, %d", briefly(b), brief(l), base, there, e, want, wantThere, wantE)
	}
	got, e := seqs.Put(l, b)
	if want, wantE := wordsPut(l, b); !same(got, want) || e != wantE {
		t.Errorf("Put of %s behind %s tells %s, %d, want %s, %d", briefly(b), brief(l), brief(got), e, brief(want), wantE)
	}
}

func TestP11_2And3OfAny(t *testing.T) {
	r := rand.New(rand.NewSource(112))
	for range 600 {
		l := anyProds(r)
		all := batchesBeside(l)
		for range 40 {
			b := all[r.Intn(len(all))]
			looks(t, "any", l, b)
			puts(t, "any", l, b)
		}
	}
}

// Whatever the batches are, behind Put of one it is there, and what was there of others is as it was.
func TestP11_3PutIsThere(t *testing.T) {
	r := rand.New(rand.NewSource(113))
	for range 2000 {
		l := anyProds(r)
		all := batchesBeside(l)
		b := all[r.Intn(len(all))]
		x, e := seqs.Put(l, b)
		if e != api.OK {
			continue
		}
		if b.Pid >= 0 && b.Ctl == api.Data {
			_, was, _ := seqs.Look(l, b)
			base, there, e := seqs.Look(x, b)
			if !there || e != api.OK || !was && base != b.Base {
				t.Errorf("behind Put of %s it is told %d, %v, %d", briefly(b), base, there, e)
			}
		}
		others := func(p api.Prod) bool { return p.Pid == b.Pid }
		if !same(slices.DeleteFunc(copied(l), others), slices.DeleteFunc(copied(x), others)) {
			t.Errorf("Put of %s changes others: %s, %s", briefly(b), brief(l), brief(x))
		}
	}
}
