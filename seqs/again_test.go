package seqs_test

import (
	"fmt"
	"math/rand"
	"testing"

	"watermeet/api"
	"watermeet/seqs"
)

// broker writes what Look calls new, and tells for each batch that it takes where it stands.
type broker struct {
	t    *testing.T
	name string
	l    []api.Prod
	log  []api.Batch
	end  int
}

// takes is a batch that has come, with whatever Base it was sent: where it stands now, or why it is refused.
func (k *broker) takes(b api.Batch) (int, api.Errno) {
	k.t.Helper()
	b = sent(b.Pid, b.Gen, b.Seq, k.end, b.Last-b.Base+1)
	base, there, e := seqs.Look(k.l, b)
	if e != api.OK || there {
		return base, e
	}
	l, e := seqs.Put(k.l, b)
	if e != api.OK {
		return 0, e
	}
	k.l, k.log, k.end = l, append(k.log, b), b.Last+1
	return b.Base, api.OK
}

// ends is what ends a transaction of that Gen, if it is not gone by.
func (k *broker) ends(pid, gen int) {
	b := ends(pid, gen, k.end, api.Abort)
	if l, e := seqs.Put(k.l, b); e == api.OK {
		k.l, k.log, k.end = l, append(k.log, b), k.end+1
	}
}

// crashes keeps what stands in a snapshot, or in the log alone.
func (k *broker) crashes(snapshot bool) {
	k.t.Helper()
	was := k.l
	if !snapshot {
		k.l = seqs.Of(k.log)
	} else if b, e := seqs.Save(k.l); e != api.OK {
		k.t.Errorf("%s: Save tells %d", k.name, e)
	} else if k.l, e = seqs.Load(b); e != api.OK {
		k.t.Errorf("%s: Load tells %d", k.name, e)
	}
	if !same(k.l, was) {
		k.t.Errorf("%s: behind a crash there is %s, want %s", k.name, brief(k.l), brief(was))
	}
}

// who is a producer and its generation.
type who struct{ pid, gen int }

// follows fails, unless what was written of each producer and its generation follows, from 0 on, and no generation comes behind a later one.
func (k *broker) follows() {
	k.t.Helper()
	next, gens := map[who]int{}, map[int]int{}
	for _, b := range k.log {
		if b.Gen < gens[b.Pid] {
			k.t.Errorf("%s: %s was written behind Gen %d", k.name, briefly(b), gens[b.Pid])
		}
		gens[b.Pid] = b.Gen
		if b.Ctl != api.Data {
			continue
		}
		w := who{b.Pid, b.Gen}
		if b.Seq != next[w] {
			k.t.Errorf("%s: %s was written, and %d was next", k.name, briefly(b), next[w])
		}
		next[w] = wordsLast(b) + 1
	}
}

// Producers send one batch behind the other, each as often as they like, and come back to the last five: each is written once, and told to be where it was written.
func TestP11_5SentAgain(t *testing.T) {
	for seed := range 300 {
		r := rand.New(rand.NewSource(int64(seed)))
		k := &broker{t: t, name: fmt.Sprint("seed ", seed)}
		type stands struct {
			b    api.Batch
			base int
		}
		all := map[int][]stands{}
		for range 150 {
			pid := r.Intn(4)
			l := all[pid]
			if len(l) > 0 && r.Intn(2) == 0 {
				x := l[len(l)-1-r.Intn(min(len(l), 5))]
				if base, e := k.takes(x.b); e != api.OK || base != x.base {
					t.Errorf("%s: %s is told %d, %d when it is sent again, and was told %d", k.name, briefly(x.b), base, e, x.base)
				}
				continue
			}
			seq := 0
			if n := len(l); n > 0 {
				seq = wordsLast(l[n-1].b) + 1
			}
			b, end := sent(pid, 2, seq, 0, 1+r.Intn(4)), k.end
			base, e := k.takes(b)
			if e != api.OK || base != end {
				t.Errorf("%s: %s is told %d, %d, want %d", k.name, briefly(b), base, e, end)
			}
			all[pid] = append(l, stands{b, base})
			if r.Intn(10) == 0 {
				k.crashes(r.Intn(2) == 0)
			}
		}
		many := 0
		for _, l := range all {
			many += len(l)
		}
		if many != len(k.log) {
			t.Errorf("%s: %d batches were sent, and %d written", k.name, many, len(k.log))
		}
		k.follows()
	}
}

// All that was ever sent comes again, in whatever order: nothing is written twice.
func TestP11_5AllAgain(t *testing.T) {
	for seed := range 300 {
		r := rand.New(rand.NewSource(int64(seed)))
		k := &broker{t: t, name: fmt.Sprint("seed ", seed)}
		var all []api.Batch
		next := map[who]int{}
		for range 60 {
			w := who{r.Intn(3), r.Intn(3)}
			b := sent(w.pid, w.gen, next[w], 0, 1+r.Intn(3))
			if _, e := k.takes(b); e == api.OK {
				next[w] += b.Last - b.Base + 1
			} else if e != api.ErrFence {
				t.Errorf("%s: %s is told %d", k.name, briefly(b), e)
			}
			all = append(all, b)
			if r.Intn(9) == 0 {
				k.ends(w.pid, w.gen)
			}
		}
		many := len(k.log)
		for range 3 {
			for _, i := range r.Perm(len(all)) {
				if base, e := k.takes(all[i]); e == api.OK {
					stands(t, k, all[i], base)
				}
			}
			k.crashes(r.Intn(2) == 0)
		}
		if len(k.log) != many {
			t.Errorf("%s: %d batches were written, and %d more when they came again", k.name, many, len(k.log)-many)
		}
		k.follows()
	}
}

// stands fails, unless that batch was written there.
func stands(t *testing.T, k *broker, b api.Batch, base int) {
	t.Helper()
	for _, x := range k.log {
		if x.Base == base && x.Pid == b.Pid && x.Gen == b.Gen && x.Seq == b.Seq && wordsLast(x) == wordsLast(b) && x.Ctl == api.Data {
			return
		}
	}
	t.Errorf("%s: %s is told to be at %d, and is not", k.name, briefly(b), base)
}

// Batches of whatever numbers come, in whatever order, of producers that do not keep to any: what is written follows, and none of it stands twice.
func TestP11_5WhateverComes(t *testing.T) {
	written, refused := 0, 0
	for seed := range 500 {
		r := rand.New(rand.NewSource(int64(seed)))
		k := &broker{t: t, name: fmt.Sprint("seed ", seed)}
		for i := range 200 {
			b := sent(r.Intn(3), r.Intn(2+i/70), r.Intn(4+i/12), 0, 1+r.Intn(3))
			base, e := k.takes(b)
			if e == api.OK {
				stands(t, k, b, base)
				written++
			} else {
				refused++
			}
			if r.Intn(20) == 0 {
				k.ends(r.Intn(3), r.Intn(2+i/70))
			}
			if r.Intn(20) == 0 {
				k.crashes(r.Intn(2) == 0)
			}
		}
		k.follows()
	}
	if written < 1000 || refused < 1000 {
		t.Errorf("that looks at too little: %d written, %d refused", written, refused)
	}
}

// Numbers end with the greatest one: nothing follows it, and they do not go round.
func TestP11_5UpToTheTop(t *testing.T) {
	k := &broker{t: t, name: "top"}
	k.l = prods(prod(1, 0, 0, topGen-20, 0))
	k.end = 50
	for seq := topGen - 19; seq <= topGen; seq += 4 {
		for range 2 {
			if _, e := k.takes(sent(1, 0, seq, 0, 4)); e != api.OK {
				t.Errorf("%d is told %d", seq, e)
			}
		}
	}
	if len(k.log) != 5 || wordsLast(k.log[4]) != topGen {
		t.Errorf("there are %d", len(k.log))
	}
	for _, seq := range []int{0, 1, topGen} {
		if _, e := k.takes(sent(1, 0, seq, 0, 1)); e != api.ErrSeq {
			t.Errorf("%d is told %d", seq, e)
		}
	}
	if _, e := k.takes(sent(1, 0, topGen+1, 0, 1)); e != api.ErrArg {
		t.Errorf("above the top: %d", e)
	}
	if base, e := k.takes(sent(1, 1, 0, 0, 1)); e != api.OK || base != 70 {
		t.Errorf("the next Gen is told %d, %d", base, e)
	}
}
