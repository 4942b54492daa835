package seqs_test

import (
	"fmt"
	"math/rand"
	"slices"
	"testing"

	"watermeet/api"
	"watermeet/seqs"
)

func TestP11_3PutByHand(t *testing.T) {
	l, second, third := three(), prod(5, 4), prod(9, 0, 0, 1, 33)
	for i, x := range []struct {
		b    api.Batch
		want []api.Prod
		e    api.Errno
	}{
		// As it is.
		{b: nobodys(40), want: l},
		{b: sent(-1, 0, 0, 40, 16), want: l},
		{b: sent(3, 2, 3, 40, 1), want: l},
		{b: sent(3, 2, 7, 40, 2), want: l},
		{b: sent(3, 2, 10, 40, 5), want: l},
		{b: sent(9, 0, 0, 40, 2), want: l},
		{b: ends(3, 2, 40, api.Commit), want: l},
		{b: ends(5, 4, 40, api.Abort), want: l},
		{b: ofSeq(ends(9, 0, 40, api.Abort), 2), want: l},
		// Refused.
		{b: sent(3, 1, 15, 40, 1), e: api.ErrFence},
		{b: ends(3, 1, 40, api.Commit), e: api.ErrFence},
		{b: sent(3, 2, 16, 40, 1), e: api.ErrSeq},
		{b: sent(3, 2, 14, 40, 1), e: api.ErrSeq},
		{b: sent(3, 2, 3, 40, 2), e: api.ErrSeq},
		{b: sent(3, 2, 2, 40, 1), e: api.ErrSeq},
		{b: sent(5, 4, 1, 40, 1), e: api.ErrSeq},
		{b: sent(5, 5, 1, 40, 1), e: api.ErrSeq},
		{b: sent(4, 0, 1, 40, 1), e: api.ErrSeq},
		{b: sent(3, 3, 15, 40, 1), e: api.ErrSeq},
		// A sixth batch: the first one goes.
		{b: sent(3, 2, 15, 40, 3), want: prods(prod(3, 2, 4, 6, 8, 7, 8, 20, 9, 9, 30, 10, 14, 31, 15, 17, 40), second, third)},
		{b: sent(3, 2, 15, 0, 1), want: prods(prod(3, 2, 4, 6, 8, 7, 8, 20, 9, 9, 30, 10, 14, 31, 15, 15, 0), second, third)},
		// The first one, the second one.
		{b: sent(5, 4, 0, 40, 16), want: prods(five(3, 2), prod(5, 4, 0, 15, 40), third)},
		{b: sent(9, 0, 2, 40, 1), want: prods(five(3, 2), second, prod(9, 0, 0, 1, 33, 2, 2, 40))},
		{b: sent(9, 0, 2, top, 1), want: prods(five(3, 2), second, prod(9, 0, 0, 1, 33, 2, 2, top))},
		// Another Gen: what was there is gone, also where nothing comes in its place.
		{b: sent(3, 3, 0, 40, 2), want: prods(prod(3, 3, 0, 1, 40), second, third)},
		{b: ends(3, 3, 40, api.Abort), want: prods(prod(3, 3), second, third)},
		{b: ofSeq(ends(3, topGen, 40, api.Commit), 15), want: prods(prod(3, topGen), second, third)},
		{b: sent(5, 6, 0, 40, 1), want: prods(five(3, 2), prod(5, 6, 0, 0, 40), third)},
		{b: ends(5, 6, 40, api.Abort), want: prods(five(3, 2), prod(5, 6), third)},
		{b: sent(9, 1, 0, 40, 1), want: prods(five(3, 2), second, prod(9, 1, 0, 0, 40))},
		// A new producer, ahead of the others, between them and behind, with a batch and without.
		{b: sent(0, 0, 0, 40, 1), want: prods(prod(0, 0, 0, 0, 40), five(3, 2), second, third)},
		{b: ends(2, 7, 40, api.Commit), want: prods(prod(2, 7), five(3, 2), second, third)},
		{b: sent(4, 9, 0, 40, 2), want: prods(five(3, 2), prod(4, 9, 0, 1, 40), second, third)},
		{b: ends(6, 0, 40, api.Abort), want: prods(five(3, 2), second, prod(6, 0), third)},
		{b: sent(8, 0, 0, 0, 2), want: prods(five(3, 2), second, prod(8, 0, 0, 1, 0), third)},
		{b: sent(10, 0, 0, 40, 1), want: prods(five(3, 2), second, third, prod(10, 0, 0, 0, 40))},
		{b: ends(top, topGen, 40, api.Commit), want: prods(five(3, 2), second, third, prod(top, topGen))},
	} {
		if got, e := puts(t, fmt.Sprint(i), l, x.b); e != x.e || !same(got, x.want) {
			t.Errorf("%d: Put of %s tells %s, %d, want %s, %d", i, briefly(x.b), brief(got), e, brief(x.want), x.e)
		}
	}
}

func TestP11_3PutBehindNone(t *testing.T) {
	for i, x := range []struct {
		b    api.Batch
		want []api.Prod
		e    api.Errno
	}{
		{b: nobodys(0)},
		{b: sent(0, 0, 0, 0, 1), want: prods(prod(0, 0, 0, 0, 0))},
		{b: sent(top, topGen, 0, top, 1), want: prods(prod(top, topGen, 0, 0, top))},
		{b: sent(4, 1, 0, 7, 16), want: prods(prod(4, 1, 0, 15, 7))},
		{b: ends(4, 1, 7, api.Commit), want: prods(prod(4, 1))},
		{b: ends(0, 0, 0, api.Abort), want: prods(prod(0, 0))},
		{b: sent(4, 1, 1, 7, 1), e: api.ErrSeq},
		{b: sent(4, 1, topGen, 7, 1), e: api.ErrSeq},
		{b: sent(4, 1, topGen, 7, 2), e: api.ErrArg},
	} {
		for _, l := range [][]api.Prod{nil, {}} {
			if got, e := puts(t, fmt.Sprint(i), l, x.b); e != x.e || !same(got, x.want) {
				t.Errorf("%d: Put of %s tells %s, %d, want %s, %d", i, briefly(x.b), brief(got), e, brief(x.want), x.e)
			}
		}
	}
}

// One producer's batches, one behind the other: at most the last five are there.
func TestP11_3PutOneBehindTheOther(t *testing.T) {
	var l []api.Prod
	var all []api.Did
	seq := 0
	for i, many := range []int{1, 3, 1, 16, 2, 5, 1, 1, 7} {
		b := sent(6, 2, seq, 100+20*i, many)
		all = append(all, api.Did{Seq: seq, Last: seq + many - 1, Base: 100 + 20*i})
		seq += many
		var e api.Errno
		if l, e = puts(t, fmt.Sprint(i), l, b); e != api.OK || !same(l, []api.Prod{{Pid: 6, Gen: 2, Did: all[max(len(all)-5, 0):]}}) {
			t.Errorf("%d: %s, %d", i, brief(l), e)
		}
		for k, d := range all {
			base, there, e := looks(t, fmt.Sprint(i), l, sent(6, 2, d.Seq, 0, d.Last-d.Seq+1))
			if k >= len(all)-5 && (base != d.Base || !there || e != api.OK) || k < len(all)-5 && (there || e != api.ErrSeq) {
				t.Errorf("behind %d, %d is told %d, %v, %d", i, k, base, there, e)
			}
		}
	}
}

// full are 1024 producers, of the odd Pids from 1 on.
func full() []api.Prod { return steady(most, 1, 2) }

func TestP11_3PutOneTooMany(t *testing.T) {
	l := full()
	for _, pid := range []int{0, 2, 1024, 2 * most, top} {
		for _, b := range []api.Batch{sent(pid, 0, 0, 5, 1), ends(pid, 0, 5, api.Commit), ends(pid, 3, 5, api.Abort)} {
			if _, there, e := looks(t, "full", l, b); there || e != api.OK {
				t.Errorf("Look of %s tells %v, %d", briefly(b), there, e)
			}
			if got, e := puts(t, "full", l, b); e != api.ErrBound || len(got) != 0 {
				t.Errorf("Put of %s tells %s, %d", briefly(b), brief(got), e)
			}
			// One less, and it has its place.
			if got, e := puts(t, "1023", l[:most-1], b); e != api.OK || len(got) != most {
				t.Errorf("Put of %s behind 1023 tells %s, %d", briefly(b), brief(got), e)
			}
		}
	}
	// Whoever is there goes on.
	for _, b := range []api.Batch{nobodys(5), sent(1, 9, 0, 5, 1), sent(2*most-1, 9, 0, 5, 1), ends(1025, 9, 5, api.Abort), sent(1, 0, 0, 5, 1)} {
		if got, e := puts(t, "full", l, b); e != api.OK || len(got) != most {
			t.Errorf("Put of %s tells %s, %d", briefly(b), brief(got), e)
		}
	}
}

func TestP11_3OfByHand(t *testing.T) {
	for i, x := range []struct {
		bs   []api.Batch
		want []api.Prod
	}{
		{},
		{bs: []api.Batch{}},
		{bs: []api.Batch{nobodys(0), nobodys(1)}},
		{[]api.Batch{sent(3, 1, 0, 0, 2), sent(3, 1, 2, 2, 1), nobodys(3), ends(3, 1, 4, api.Commit)}, prods(prod(3, 1, 0, 1, 0, 2, 2, 2))},
		{[]api.Batch{sent(9, 0, 0, 0, 1), sent(1, 0, 0, 1, 1), ends(4, 2, 2, api.Abort)}, prods(prod(1, 0, 0, 0, 1), prod(4, 2), prod(9, 0, 0, 0, 0))},
		// ErrSeq, and the producer is not there.
		{[]api.Batch{sent(3, 1, 7, 0, 2)}, prods(prod(3, 1, 7, 8, 0))},
		{[]api.Batch{sent(3, 1, topGen, 0, 1)}, prods(prod(3, 1, topGen, topGen, 0))},
		{[]api.Batch{sent(3, 1, 7, 0, 2), sent(3, 1, 9, 2, 3)}, prods(prod(3, 1, 7, 8, 0, 9, 11, 2))},
		{[]api.Batch{sent(5, 0, 0, 0, 1), sent(3, 1, 7, 1, 2), sent(7, 2, 1, 3, 1), sent(4, 0, 2, 5, 1)}, prods(prod(3, 1, 7, 8, 1), prod(4, 0, 2, 2, 5), prod(5, 0, 0, 0, 0), prod(7, 2, 1, 1, 3))},
		// ErrSeq, and its Gen is below the batch's.
		{[]api.Batch{sent(3, 1, 0, 0, 2), sent(3, 2, 5, 2, 1)}, prods(prod(3, 2, 5, 5, 2))},
		{[]api.Batch{sent(3, 1, 0, 0, 2), sent(3, 2, 1, 2, 1)}, prods(prod(3, 2, 1, 1, 2))},
		{[]api.Batch{sent(3, 1, 0, 0, 2), sent(3, 1, 2, 2, 2), sent(3, 2, 2, 4, 2)}, prods(prod(3, 2, 2, 3, 4))},
		{[]api.Batch{sent(3, 1, 5, 0, 2), sent(3, 2, 5, 4, 2)}, prods(prod(3, 2, 5, 6, 4))},
		{[]api.Batch{ends(3, 1, 0, api.Commit), sent(3, 2, 5, 4, 2)}, prods(prod(3, 2, 5, 6, 4))},
		// ErrSeq, and it has no batches.
		{[]api.Batch{ends(3, 1, 0, api.Commit), sent(3, 1, 5, 4, 2)}, prods(prod(3, 1, 5, 6, 4))},
		{[]api.Batch{sent(3, 0, 0, 0, 2), ends(3, 1, 2, api.Abort), sent(3, 1, 1, 4, 2)}, prods(prod(3, 1, 1, 2, 4))},
		// ErrSeq, and the batch's Seq is above the Last of the last one.
		{[]api.Batch{sent(3, 1, 0, 0, 2), sent(3, 1, 3, 2, 1)}, prods(prod(3, 1, 3, 3, 2))},
		{[]api.Batch{sent(3, 1, 0, 0, 2), sent(3, 1, 2, 2, 1), sent(3, 1, 4, 9, 1), sent(3, 1, 5, 10, 1)}, prods(prod(3, 1, 4, 4, 9, 5, 5, 10))},
		{[]api.Batch{sent(3, 1, 0, 0, 2), sent(3, 1, topGen-1, 9, 2)}, prods(prod(3, 1, topGen-1, topGen, 9))},
		// ErrSeq, and nothing of that: passed by, without a trace.
		{[]api.Batch{sent(3, 1, 5, 0, 2), sent(3, 1, 4, 2, 1)}, prods(prod(3, 1, 5, 6, 0))},
		{[]api.Batch{sent(3, 1, 5, 0, 2), sent(3, 1, 6, 2, 1)}, prods(prod(3, 1, 5, 6, 0))},
		{[]api.Batch{sent(3, 1, 5, 0, 2), sent(3, 1, 5, 2, 1)}, prods(prod(3, 1, 5, 6, 0))},
		{[]api.Batch{sent(3, 1, 5, 0, 2), sent(3, 1, 6, 2, 3)}, prods(prod(3, 1, 5, 6, 0))},
		{[]api.Batch{sent(3, 1, 5, 0, 2), sent(3, 1, 0, 2, 1), sent(3, 1, 7, 3, 1)}, prods(prod(3, 1, 5, 6, 0, 7, 7, 3))},
		// What is there already stays where it was first.
		{[]api.Batch{sent(3, 1, 5, 0, 2), sent(3, 1, 5, 9, 2), sent(3, 1, 7, 11, 1)}, prods(prod(3, 1, 5, 6, 0, 7, 7, 11))},
		// ErrFence: passed by, of whatever kind.
		{[]api.Batch{sent(3, 2, 0, 0, 2), sent(3, 1, 2, 2, 1)}, prods(prod(3, 2, 0, 1, 0))},
		{[]api.Batch{sent(3, 2, 0, 0, 2), sent(3, 1, 9, 2, 1), sent(3, 1, 0, 3, 1), ends(3, 1, 4, api.Abort)}, prods(prod(3, 2, 0, 1, 0))},
		{[]api.Batch{ends(3, 2, 0, api.Commit), sent(3, 1, 0, 2, 1), sent(3, 1, 5, 2, 1)}, prods(prod(3, 2))},
		// Six.
		{[]api.Batch{sent(3, 0, 0, 0, 1), sent(3, 0, 1, 1, 1), sent(3, 0, 2, 2, 1), sent(3, 0, 3, 3, 1), sent(3, 0, 4, 4, 1), sent(3, 0, 5, 5, 1)}, prods(prod(3, 0, 1, 1, 1, 2, 2, 2, 3, 3, 3, 4, 4, 4, 5, 5, 5))},
	} {
		if got := ofs(t, fmt.Sprint(i), x.bs); !same(got, x.want) {
			t.Errorf("%d: %s, want %s", i, brief(got), brief(x.want))
		}
	}
}

// Batches that may not be are passed by, and leave no trace.
func TestP11_3OfBatchesThatMayNotBe(t *testing.T) {
	good := []api.Batch{sent(3, 1, 0, 0, 2), sent(3, 1, 2, 2, 1), sent(4, 0, 5, 3, 1)}
	want := ofs(t, "good ones", good)
	for name, no := range noBatches(3) {
		for at := range len(good) + 1 {
			if got := ofs(t, name, slices.Insert(slices.Clone(good), at, no.b)); !same(got, want) {
				t.Errorf("%s, at %d: %s, want %s", name, at, brief(got), brief(want))
			}
		}
		if got := ofs(t, name, []api.Batch{no.b}); len(got) != 0 {
			t.Errorf("%s alone: %s", name, brief(got))
		}
	}
}

func TestP11_3OfTooMany(t *testing.T) {
	for _, seq := range []int{0, 3} {
		var bs []api.Batch
		for i := range most {
			bs = append(bs, sent(2*((i*389)%most)+1, 0, seq, i, 1))
		}
		all := ofs(t, "1024", bs)
		if len(all) != most {
			t.Fatalf("%s", brief(all))
		}
		// New ones are passed by, ahead of, between and behind the others, whether they begin or not.
		for _, pid := range []int{0, 2, 1000, 2 * most, top} {
			for _, b := range []api.Batch{sent(pid, 0, 0, 5000, 1), sent(pid, 0, 7, 5000, 1), ends(pid, 1, 5000, api.Commit)} {
				if got := ofs(t, "1025", append(slices.Clip(bs), b)); !same(got, all) {
					t.Errorf("with %s: %s", briefly(b), brief(got))
				}
			}
		}
		// Those that are there go on.
		more := append(slices.Clip(bs), sent(2, 0, 0, 5000, 1), sent(1, 0, seq+1, 5001, 2), sent(3, 0, seq+9, 5003, 1), sent(5, 1, 4, 5004, 1), ends(7, 2, 5005, api.Abort), sent(9, 0, seq-1, 5006, 1))
		want := copied(all)
		want[0].Did = append(want[0].Did, api.Did{Seq: seq + 1, Last: seq + 2, Base: 5001})
		want[1] = prod(3, 0, seq+9, seq+9, 5003)
		want[2] = prod(5, 1, 4, 4, 5004)
		want[3] = prod(7, 2)
		if got := ofs(t, "going on", more); !same(got, want) {
			t.Errorf("%s, want %s", brief(got), brief(want))
		}
	}
}

func TestP11_3OfAllSmall(t *testing.T) {
	kinds := []api.Batch{nobodys(0), ends(1, 0, 0, api.Commit), ends(1, 1, 0, api.Abort), ends(2, 0, 0, api.Abort)}
	for gen := range 2 {
		for seq := range 4 {
			kinds = append(kinds, sent(1, gen, seq, 0, 1), sent(1, gen, seq, 0, 2))
		}
	}
	kinds = append(kinds, sent(2, 0, 0, 0, 1), sent(2, 0, 1, 0, 1))
	all := [][]api.Batch{nil}
	for at := 0; at < len(all) && len(all[at]) < 4; at++ {
		for _, b := range kinds {
			d := b.Seq*100 + 10*len(all[at])
			b.Base, b.Last, b.Recs = d, d+b.Last-b.Base, nil
			all = append(all, append(slices.Clip(all[at]), b))
		}
	}
	for _, bs := range all {
		if got, want := seqs.Of(bs), wordsOf(bs); !same(got, want) {
			t.Errorf("Of %d batches tells %s, want %s", len(bs), brief(got), brief(want))
		}
	}
}

func TestP11_3OfAny(t *testing.T) {
	r := rand.New(rand.NewSource(114))
	for range 3000 {
		var bs []api.Batch
		for range r.Intn(40) {
			b := sent(r.Intn(4), r.Intn(3), r.Intn(12), len(bs), 1+r.Intn(3))
			switch r.Intn(12) {
			case 0:
				b = nobodys(len(bs))
			case 1:
				b = ends(b.Pid, b.Gen, len(bs), api.Commit)
			case 2:
				b.Seq -= 5
			}
			bs = append(bs, b)
		}
		ofs(t, "any", bs)
	}
}

// Of batches that each Put lets in, and writes, Of tells what Put does.
func TestP11_3OfIsPutOfEach(t *testing.T) {
	r := rand.New(rand.NewSource(115))
	for range 500 {
		var l []api.Prod
		var bs []api.Batch
		for range 60 {
			b := sent(r.Intn(4), r.Intn(3)*r.Intn(2), 0, len(bs), 1+r.Intn(3))
			if p, is := wordsOne(l, b.Pid); is && r.Intn(4) > 0 {
				b.Gen = p.Gen
				if n := len(p.Did); n > 0 {
					b.Seq = p.Did[n-1].Last + 1
				}
			}
			if r.Intn(6) == 0 {
				b = ends(b.Pid, b.Gen, len(bs), api.Abort)
			}
			_, there, e := seqs.Look(l, b)
			if there || e != api.OK {
				continue
			}
			bs = append(bs, b)
			if l, e = seqs.Put(l, b); e != api.OK {
				t.Fatalf("Put of %s tells %d", briefly(b), e)
			}
		}
		if got := ofs(t, "written", bs); !same(got, l) {
			t.Errorf("Of tells %s, Put %s", brief(got), brief(l))
		}
	}
}

// calls are what is told of producers by each call that tells some, each twice.
func calls(l []api.Prod) map[string][][]api.Prod {
	put := func(b api.Batch) func() []api.Prod {
		return func() []api.Prod { x, _ := seqs.Put(l, b); return x }
	}
	at := api.Prod{Pid: 7}
	if len(l) > 0 {
		at = l[len(l)/2]
	}
	seq := 0
	if n := len(at.Did); n > 0 {
		seq = min(at.Did[n-1].Last+1, topGen)
	}
	told := map[string][][]api.Prod{}
	for name, call := range map[string]func() []api.Prod{
		"Put, nobody's":       put(nobodys(5)),
		"Put, what follows":   put(sent(at.Pid, at.Gen, seq, 5, 1)),
		"Put, what is there":  put(sent(at.Pid, at.Gen, max(seq-1, 0), 5, 1)),
		"Put, an end":         put(ends(at.Pid, at.Gen, 5, api.Commit)),
		"Put, another Gen":    put(sent(at.Pid, min(at.Gen+1, topGen), 0, 5, 1)),
		"Put, an end of that": put(ends(at.Pid, min(at.Gen+1, topGen), 5, api.Abort)),
		"Put, a new one":      put(sent(at.Pid/2, 0, 0, 5, 1)),
		"Load":                func() []api.Prod { b, _ := seqs.Save(l); x, _ := seqs.Load(b); return x },
		"Of":                  func() []api.Prod { return seqs.Of(written(l)) },
	} {
		told[name] = [][]api.Prod{call(), call()}
	}
	return told
}

// written are batches of which Of tells these producers, if none of theirs is longer than a batch may be.
func written(l []api.Prod) []api.Batch {
	var bs []api.Batch
	for _, p := range l {
		if len(p.Did) == 0 {
			bs = append(bs, ends(p.Pid, p.Gen, 0, api.Commit))
		}
		for _, d := range p.Did {
			b := sent(p.Pid, p.Gen, d.Seq, d.Base, min(d.Last-d.Seq+1, 17))
			bs = append(bs, b)
		}
	}
	return bs
}

func TestP11_3OfTellsWhatWasWritten(t *testing.T) {
	many := 0
	for _, x := range shapes() {
		bs := written(x.l)
		if slices.ContainsFunc(bs, func(b api.Batch) bool { return b.Last-b.Base > 15 || b.Last > top }) {
			continue
		}
		many++
		if got := ofs(t, x.name, bs); !same(got, x.l) {
			t.Errorf("%s: %s, want %s", x.name, brief(got), brief(x.l))
		}
	}
	if many < 15 {
		t.Errorf("that looks at too little: %d", many)
	}
}

func TestProducersThatAreToldAreNew(t *testing.T) {
	for _, x := range shapes() {
		l := roomy(x.l)
		for name, two := range calls(l) {
			was, wasTwo := room(l), room(two[1])
			scribble(two[0])
			if !same(room(l), was) {
				t.Errorf("%s: %s: what was handed in changes with what is told", x.name, name)
			}
			if !same(room(two[1]), wasTwo) {
				t.Errorf("%s: %s: what is told changes with what was told ahead of it", x.name, name)
			}
		}
	}
}

// Within what is told each list has memory of its own: who writes into one, or behind it, changes no other one.
func TestProducersThatAreToldShareNothing(t *testing.T) {
	for _, x := range shapes() {
		for name, two := range calls(x.l) {
			l := two[0]
			for i := range few(l) {
				was := copied(l)
				was[i].Did = nil
				full := l[i].Did[:cap(l[i].Did)]
				for k := range full {
					full[k] = api.Did{Seq: -5, Last: -5, Base: -5}
				}
				l[i].Did = nil
				if !same(l, was) {
					t.Errorf("%s: %s: others change with the batches of the producer at %d", x.name, name, i)
				}
			}
		}
	}
}

// What is told stays as it is when what was handed in does not, and whatever is put behind it.
func TestProducersThatAreToldStay(t *testing.T) {
	for _, x := range shapes() {
		l := roomy(x.l)
		told := calls(l)
		was := map[string][]api.Prod{}
		for name, two := range told {
			was[name] = copied(two[0])
		}
		scribble(l)
		for name, two := range told {
			calls(two[0])
			if !same(two[0], was[name]) {
				t.Errorf("%s: %s changes with what was handed in, or with what is told of it", x.name, name)
			}
		}
	}
}

// Very many batches are gone over in about as many steps.
func TestP11_3OfVeryMany(t *testing.T) {
	var bs []api.Batch
	for i := range 100000 {
		bs = append(bs, api.Batch{Base: i, Last: i, From: i, Pid: i % 2000, Seq: i / 2000})
	}
	l := seqs.Of(bs)
	if len(l) != most {
		t.Fatalf("%d producers", len(l))
	}
	for i, p := range l {
		if p.Pid != i || len(p.Did) != 5 || p.Did[4] != (api.Did{Seq: 49, Last: 49, Base: 98000 + i}) {
			t.Fatalf("%d: %v", i, p)
		}
	}
}
