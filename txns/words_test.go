package txns_test

import (
	"fmt"
	"reflect"
	"slices"
	"testing"

	"watermeet/api"
	"watermeet/batch"
	"watermeet/txns"
)

// The limits as the chapter tells them, so that one that moves is seen.
const (
	topGen = 1 << 20
	top    = 1 << 40
)

// words has the chapter's words, followed slowly.

func wordsIsOff(n int) bool { return 0 <= n && n <= top }

func wordsCheckEnded(l []api.Gone) bool {
	for i, g := range l {
		if i > 0 && !(g.Last > l[i-1].Last) {
			return false
		}
		if !wordsIsOff(g.Last) || !wordsIsOff(g.Pid) || g.No < 0 || g.No > topGen || g.First < 0 || !(g.First < g.Last) {
			return false
		}
	}
	return true
}

func wordsCheck(t api.Tx) api.Errno {
	for i, o := range t.Open {
		if i > 0 && !(o.Pid > t.Open[i-1].Pid) {
			return api.ErrArg
		}
		if !wordsIsOff(o.Pid) || !wordsIsOff(o.First) {
			return api.ErrArg
		}
	}
	if !wordsCheckEnded(t.Gone) || !wordsCheckEnded(t.Done) {
		return api.ErrArg
	}
	return api.OK
}

// wordsFollows tells whether a batch's Base is above all that it has to be above.
func wordsFollows(t api.Tx, b api.Batch) bool {
	for _, o := range t.Open {
		if !(b.Base > o.First) {
			return false
		}
	}
	for _, g := range append(slices.Clone(t.Gone), t.Done...) {
		if !(b.Base > g.Last) {
			return false
		}
	}
	return true
}

func wordsPut(t api.Tx, b api.Batch) (api.Tx, api.Errno) {
	if e := wordsCheck(t); e != api.OK {
		return api.Tx{}, e
	}
	if e := batch.Check(b); e != api.OK {
		return api.Tx{}, e
	}
	if !wordsFollows(t, b) {
		return api.Tx{}, api.ErrOrder
	}
	x := copied(t)
	is, first := false, 0
	var others []api.Open
	for _, o := range x.Open {
		if o.Pid == b.Pid {
			is, first = true, o.First
		} else {
			others = append(others, o)
		}
	}
	if b.Ctl == api.Data && b.Txn && !is {
		x.Open = append(others, api.Open{Pid: b.Pid, First: b.Base})
		slices.SortFunc(x.Open, func(a, b api.Open) int { return a.Pid - b.Pid })
	}
	g := api.Gone{Pid: b.Pid, No: b.Seq, First: first, Last: b.Base}
	if b.Ctl == api.Commit && is {
		x.Open, x.Done = others, append(x.Done, g)
	}
	if b.Ctl == api.Abort && is {
		x.Open, x.Gone = others, append(x.Gone, g)
	}
	return x, api.OK
}

func wordsOf(bs []api.Batch) api.Tx {
	var t api.Tx
	for _, b := range bs {
		if x, e := wordsPut(t, b); e == api.OK {
			t = x
		}
	}
	return t
}

func wordsStable(t api.Tx, high int) int {
	l := []int{high}
	for _, o := range t.Open {
		l = append(l, o.First)
	}
	return slices.Min(l)
}

func wordsHidden(t api.Tx, from, to int) []api.Gone {
	var l []api.Gone
	for _, g := range t.Gone {
		if g.Last >= from && g.First < to {
			l = append(l, g)
		}
	}
	return l
}

func wordsIsOf(b api.Batch, g api.Gone) bool {
	return b.Ctl == api.Data && b.Txn && b.Pid == g.Pid && b.Base >= g.First && b.Base < g.Last
}

func wordsShow(bs []api.Batch, l []api.Gone, to int) []api.Batch {
	var x []api.Batch
	for _, b := range bs {
		of := 0
		for _, g := range l {
			if wordsIsOf(b, g) {
				of++
			}
		}
		if b.Ctl == api.Data && b.Last < to && of == 0 {
			x = append(x, b)
		}
	}
	return copies(x)
}

func wordsTrim(t api.Tx, start int) api.Tx {
	x := api.Tx{Open: slices.Clone(t.Open)}
	for _, g := range t.Gone {
		if !(g.Last < start) {
			x.Gone = append(x.Gone, g)
		}
	}
	for _, g := range t.Done {
		if !(g.Last < start) {
			x.Done = append(x.Done, g)
		}
	}
	return x
}

// copied are transactions with lists of their own.
func copied(t api.Tx) api.Tx {
	return api.Tx{Open: slices.Clone(t.Open), Gone: slices.Clone(t.Gone), Done: slices.Clone(t.Done)}
}

// copies are batches with lists of their own.
func copies(bs []api.Batch) []api.Batch {
	x := slices.Clone(bs)
	for i := range x {
		x[i].Recs = slices.Clone(x[i].Recs)
	}
	return x
}

func same(a, b api.Tx) bool {
	return slices.Equal(a.Open, b.Open) && slices.Equal(a.Gone, b.Gone) && slices.Equal(a.Done, b.Done)
}

func sameBatches(a, b []api.Batch) bool { return slices.EqualFunc(a, b, batch.Same) }

func isNothing(t api.Tx) bool { return len(t.Open)+len(t.Gone)+len(t.Done) == 0 }

// brief tells transactions in few words.
func brief(t api.Tx) string {
	return fmt.Sprintf("open %v, gone %v, done %v", t.Open[:min(len(t.Open), 8)], t.Gone[:min(len(t.Gone), 8)], t.Done[:min(len(t.Done), 8)])
}

// briefly tells batches in few words.
func briefly(bs ...api.Batch) string {
	var l []string
	for _, b := range bs[:min(len(bs), 12)] {
		l = append(l, fmt.Sprintf("[%d-%d of %d, Seq %d, Txn %v, Ctl %d]", b.Base, b.Last, b.Pid, b.Seq, b.Txn, b.Ctl))
	}
	return fmt.Sprintf("%d of %v", len(bs), l)
}

// roomy are lists of their own, with room behind each that holds what would be told, if it were read on into; who writes there is seen.
func roomy(t api.Tx) api.Tx {
	pid, last := 0, 1
	for _, o := range t.Open {
		pid = o.Pid + 1
	}
	for _, g := range slices.Concat(t.Gone, t.Done) {
		last = max(last, min(g.Last, top)+1)
	}
	more := []api.Gone{{Pid: 1, Last: last}, {Pid: -7, First: -7, Last: -7}}
	open := slices.Concat(t.Open, []api.Open{{Pid: pid}, {Pid: -7, First: -7}})
	gone, done := slices.Concat(t.Gone, more), slices.Concat(t.Done, more)
	return api.Tx{Open: open[:len(t.Open)], Gone: gone[:len(t.Gone)], Done: done[:len(t.Done)]}
}

// room are lists with what stands in the room behind each.
func room(t api.Tx) api.Tx {
	return copied(api.Tx{Open: t.Open[:cap(t.Open)], Gone: t.Gone[:cap(t.Gone)], Done: t.Done[:cap(t.Done)]})
}

// scribble writes over all that lists have, and over the room behind each.
func scribble(t api.Tx) {
	for i := range t.Open[:cap(t.Open)] {
		t.Open[:cap(t.Open)][i] = api.Open{Pid: -5, First: -5}
	}
	scribbleEnded(t.Gone)
	scribbleEnded(t.Done)
}

func scribbleEnded(l []api.Gone) {
	l = l[:cap(l)]
	for i := range l {
		l[i] = api.Gone{Pid: -5, No: -5, First: -5, Last: -5}
	}
}

// scribbleBatches writes over batches, their records, and the room behind all of these.
func scribbleBatches(bs []api.Batch) {
	bs = bs[:cap(bs)]
	for i, b := range bs {
		recs := b.Recs[:cap(b.Recs)]
		for k := range recs {
			recs[k] = api.Rec{Off: -5, Key: "-5", Val: "-5", Stamp: -5}
		}
		bs[i] = api.Batch{Base: -5, Last: -5, Pid: -5}
	}
}

// stays hands roomy copies on, and fails, unless these are as they were behind the call; then it writes over them.
func stays(t *testing.T, name string, u api.Tx, call func(u api.Tx)) {
	t.Helper()
	x := roomy(u)
	was := room(x)
	call(x)
	if !same(room(x), was) {
		t.Errorf("%s: %s was changed, or the room behind it", name, brief(u))
	}
	scribble(x)
}

// staysBatches does so with batches: what stands in the room behind them would be told.
func staysBatches(t *testing.T, name string, bs []api.Batch, call func(bs []api.Batch)) {
	t.Helper()
	x := append(copies(bs), data(top-1, 1, 3), nobodys(top, 1))
	for i, b := range x {
		recs := slices.Concat(b.Recs, []api.Rec{{Off: b.Last + 1, Val: "more"}})
		x[i].Recs = recs[:len(b.Recs)]
	}
	was := slices.Clone(x)
	for i, b := range was {
		was[i].Recs = slices.Clone(b.Recs[:len(b.Recs)+1])
	}
	call(x[:len(bs)])
	is := slices.Clone(x)
	for i, b := range is {
		is[i].Recs = b.Recs[:len(b.Recs)+1]
	}
	if !reflect.DeepEqual(is, was) {
		t.Errorf("%s: %s were changed, or the room behind them", name, briefly(bs...))
	}
	scribbleBatches(x)
}

// The faces, in a form that is held against the words. What is told is looked at behind the call, when what was handed in has been written over.

func checks(t *testing.T, name string, u api.Tx) api.Errno {
	t.Helper()
	var e api.Errno
	stays(t, name, u, func(u api.Tx) { e = txns.Check(u) })
	if want := wordsCheck(u); e != want {
		t.Errorf("%s: Check of %s tells %d, want %d", name, brief(u), e, want)
	}
	return e
}

func puts(t *testing.T, name string, u api.Tx, b api.Batch) (api.Tx, api.Errno) {
	t.Helper()
	want, wantE := wordsPut(u, b)
	var got api.Tx
	var e api.Errno
	stays(t, name, u, func(u api.Tx) {
		staysBatches(t, name, []api.Batch{b}, func(bs []api.Batch) { got, e = txns.Put(u, bs[0]) })
	})
	if e != wantE || !same(got, want) {
		t.Errorf("%s: Put of %s behind %s tells %s, %d, want %s, %d", name, briefly(b), brief(u), brief(got), e, brief(want), wantE)
	}
	if e != api.OK && !isNothing(got) || e == api.OK && wordsCheck(got) != api.OK {
		t.Errorf("%s: Put of %s behind %s tells %s beside %d", name, briefly(b), brief(u), brief(got), e)
	}
	return got, e
}

func ofs(t *testing.T, name string, bs []api.Batch) api.Tx {
	t.Helper()
	want := wordsOf(bs)
	var got api.Tx
	staysBatches(t, name, bs, func(bs []api.Batch) { got = txns.Of(bs) })
	if !same(got, want) || wordsCheck(got) != api.OK {
		t.Errorf("%s: Of %s tells %s, want %s", name, briefly(bs...), brief(got), brief(want))
	}
	return got
}

func stables(t *testing.T, name string, u api.Tx, high int) int {
	t.Helper()
	var got int
	stays(t, name, u, func(u api.Tx) { got = txns.Stable(u, high) })
	if want := wordsStable(u, high); got != want {
		t.Errorf("%s: Stable of %s, %d tells %d, want %d", name, brief(u), high, got, want)
	}
	return got
}

func hiddens(t *testing.T, name string, u api.Tx, from, to int) []api.Gone {
	t.Helper()
	want := wordsHidden(u, from, to)
	var got []api.Gone
	stays(t, name, u, func(u api.Tx) { got = txns.Hidden(u, from, to) })
	if !slices.Equal(got, want) {
		t.Errorf("%s: Hidden of %s from %d to %d tells %v, want %v", name, brief(u), from, to, got, want)
	}
	return got
}

func shows(t *testing.T, name string, bs []api.Batch, l []api.Gone, to int) []api.Batch {
	t.Helper()
	want := wordsShow(bs, l, to)
	var got []api.Batch
	stays(t, name, api.Tx{Gone: l}, func(u api.Tx) {
		staysBatches(t, name, bs, func(bs []api.Batch) { got = txns.Show(bs, u.Gone, to) })
	})
	if !sameBatches(got, want) {
		t.Errorf("%s: Show of %s without %v to %d tells %s, want %s", name, briefly(bs...), l[:min(len(l), 8)], to, briefly(got...), briefly(want...))
	}
	return got
}

func trims(t *testing.T, name string, u api.Tx, start int) api.Tx {
	t.Helper()
	want := wordsTrim(u, start)
	var got api.Tx
	stays(t, name, u, func(u api.Tx) { got = txns.Trim(u, start) })
	if !same(got, want) {
		t.Errorf("%s: Trim of %s at %d tells %s, want %s", name, brief(u), start, brief(got), brief(want))
	}
	return got
}
