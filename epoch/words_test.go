package epoch_test

import (
	"fmt"
	"reflect"
	"slices"
	"testing"

	"watermeet/api"
	"watermeet/epoch"
)

// The limits as the chapter tells them, so that one that moves is seen.
const (
	topGen = 1 << 20
	top    = 1 << 40
)

// words has the chapter's words, followed slowly.

func wordsCheck(l []api.Epo) api.Errno {
	for i, x := range l {
		if x.Epoch < 0 || x.Epoch > topGen || x.Start < 0 || x.Start > top {
			return api.ErrArg
		}
		if i > 0 && !(x.Epoch > l[i-1].Epoch && x.Start > l[i-1].Start) {
			return api.ErrArg
		}
	}
	return api.OK
}

// wordsEnds is where each of the epochs ends, in a log that ends with end.
func wordsEnds(l []api.Epo, end int) []int {
	var x []int
	for i := range l {
		if i == len(l)-1 {
			x = append(x, end)
		} else {
			x = append(x, l[i+1].Start)
		}
	}
	return x
}

func wordsPut(l []api.Epo, which, start int) ([]api.Epo, api.Errno) {
	if wordsCheck(l) != api.OK || which < 0 || which > topGen || start < 0 || start > top {
		return nil, api.ErrArg
	}
	x := slices.Clone(l)
	if n := len(x); n > 0 {
		if which < x[n-1].Epoch {
			return nil, api.ErrEpoch
		}
		if which == x[n-1].Epoch {
			return x, api.OK
		}
		if start < x[n-1].Start {
			return nil, api.ErrOrder
		}
		if start == x[n-1].Start {
			x = x[:n-1]
		}
	}
	return append(x, api.Epo{Epoch: which, Start: start}), api.OK
}

func wordsOf(bs []api.Batch) []api.Epo {
	var l []api.Epo
	for _, b := range bs {
		if x, e := wordsPut(l, b.Epoch, b.Base); e == api.OK {
			l = x
		}
	}
	return l
}

func wordsEndOf(l []api.Epo, which, end int) (int, int) {
	if wordsCheck(l) != api.OK {
		return -1, 0
	}
	got, off := -1, 0
	for i, x := range l {
		if x.Epoch <= which && x.Epoch > got {
			got, off = x.Epoch, wordsEnds(l, end)[i]
		}
	}
	return got, off
}

func wordsCut(l []api.Epo, off int) []api.Epo {
	if wordsCheck(l) != api.OK {
		return nil
	}
	var got []api.Epo
	for _, x := range l {
		if x.Start < off {
			got = append(got, x)
		}
	}
	return got
}

// wordsTrim hands no end on: the last one stays wherever it ends.
func wordsTrim(l []api.Epo, start int) []api.Epo {
	if wordsCheck(l) != api.OK || start < 0 || start > top {
		return nil
	}
	var got []api.Epo
	for i, x := range l {
		if i == len(l)-1 || wordsEnds(l, 0)[i] > start {
			x.Start = max(x.Start, start)
			got = append(got, x)
		}
	}
	return got
}

func wordsMeet(a []api.Epo, aEnd int, b []api.Epo, bEnd int) int {
	if wordsCheck(a) != api.OK || wordsCheck(b) != api.OK {
		return 0
	}
	greatest, meet := -1, 0
	for i, x := range a {
		for k, y := range b {
			if x.Epoch == y.Epoch && x.Epoch > greatest {
				greatest, meet = x.Epoch, min(wordsEnds(a, aEnd)[i], wordsEnds(b, bEnd)[k])
			}
		}
	}
	return meet
}

// epos are epochs of pairs of numbers: Epoch and Start, Epoch and Start.
func epos(l ...int) []api.Epo {
	var x []api.Epo
	for i := 0; i < len(l); i += 2 {
		x = append(x, api.Epo{Epoch: l[i], Start: l[i+1]})
	}
	return x
}

// brief tells epochs in few words.
func brief(l []api.Epo) string {
	var x []string
	for _, y := range l[:min(len(l), 8)] {
		x = append(x, fmt.Sprintf("%d@%d", y.Epoch, y.Start))
	}
	return fmt.Sprintf("%d of %v", len(l), x)
}

// roomy is a list of its own, with room behind it that holds epochs that may follow: who reads on into it, or writes there, is seen.
func roomy(l []api.Epo) []api.Epo {
	end := api.Epo{Epoch: -1, Start: -1}
	if len(l) > 0 {
		end = l[len(l)-1]
	}
	x := slices.Concat(l, epos(end.Epoch+1, end.Start+1, end.Epoch+2, end.Start+9, -7, -7))
	return x[:len(l)]
}

// room is a list with what stands in the room behind it.
func room(l []api.Epo) []api.Epo { return slices.Clone(l[:cap(l)]) }

// scribble writes over all that a list has, and over the room behind it.
func scribble(l []api.Epo) {
	for i := range l[:cap(l)] {
		l[:cap(l)][i] = api.Epo{Epoch: -5, Start: -5}
	}
}

// stays hands roomy copies of lists on, and fails, unless these are as they were behind the call; then it writes over them.
func stays(t *testing.T, name string, a, b []api.Epo, call func(a, b []api.Epo)) {
	t.Helper()
	x, y := roomy(a), roomy(b)
	wasX, wasY := room(x), room(y)
	call(x, y)
	if !slices.Equal(room(x), wasX) || !slices.Equal(room(y), wasY) {
		t.Errorf("%s: %s or %s was changed, or the room behind it", name, brief(a), brief(b))
	}
	scribble(x)
	scribble(y)
}

// The faces, in a form that is held against the words. What is told is looked at behind the call, when what was handed in has been written over.

func checks(t *testing.T, name string, l []api.Epo) api.Errno {
	t.Helper()
	var e api.Errno
	stays(t, name, l, nil, func(l, _ []api.Epo) { e = epoch.Check(l) })
	if want := wordsCheck(l); e != want {
		t.Errorf("%s: Check of %s tells %d, want %d", name, brief(l), e, want)
	}
	return e
}

func puts(t *testing.T, name string, l []api.Epo, which, start int) ([]api.Epo, api.Errno) {
	t.Helper()
	want, e := wordsPut(l, which, start)
	var got []api.Epo
	var gotE api.Errno
	stays(t, name, l, nil, func(l, _ []api.Epo) { got, gotE = epoch.Put(l, which, start) })
	if gotE != e || !slices.Equal(got, want) {
		t.Errorf("%s: Put of %d, %d behind %s tells %s, %d, want %s, %d", name, which, start, brief(l), brief(got), gotE, brief(want), e)
	}
	if gotE != api.OK && len(got) > 0 || gotE == api.OK && wordsCheck(got) != api.OK {
		t.Errorf("%s: Put of %d, %d behind %s tells %s beside %d", name, which, start, brief(l), brief(got), gotE)
	}
	return got, gotE
}

func endsOf(t *testing.T, name string, l []api.Epo, which, end int) (int, int) {
	t.Helper()
	want, wantOff := wordsEndOf(l, which, end)
	var got, off int
	stays(t, name, l, nil, func(l, _ []api.Epo) { got, off = epoch.EndOf(l, which, end) })
	if got != want || off != wantOff {
		t.Errorf("%s: EndOf %d in %s that ends with %d tells %d, %d, want %d, %d", name, which, brief(l), end, got, off, want, wantOff)
	}
	return got, off
}

func cuts(t *testing.T, name string, l []api.Epo, off int) []api.Epo {
	t.Helper()
	want := wordsCut(l, off)
	var got []api.Epo
	stays(t, name, l, nil, func(l, _ []api.Epo) { got = epoch.Cut(l, off) })
	if !slices.Equal(got, want) || wordsCheck(got) != api.OK {
		t.Errorf("%s: Cut of %s at %d tells %s, want %s", name, brief(l), off, brief(got), brief(want))
	}
	return got
}

func trims(t *testing.T, name string, l []api.Epo, start int) []api.Epo {
	t.Helper()
	want := wordsTrim(l, start)
	var got []api.Epo
	stays(t, name, l, nil, func(l, _ []api.Epo) { got = epoch.Trim(l, start) })
	if !slices.Equal(got, want) || wordsCheck(got) != api.OK {
		t.Errorf("%s: Trim of %s to %d tells %s, want %s", name, brief(l), start, brief(got), brief(want))
	}
	return got
}

// meets asks the one side first, and then the other one.
func meets(t *testing.T, name string, a []api.Epo, aEnd int, b []api.Epo, bEnd int) int {
	t.Helper()
	want := wordsMeet(a, aEnd, b, bEnd)
	var got, back int
	stays(t, name, a, b, func(a, b []api.Epo) { got = epoch.Meet(a, aEnd, b, bEnd) })
	stays(t, name, a, b, func(a, b []api.Epo) { back = epoch.Meet(b, bEnd, a, aEnd) })
	if got != want || back != want {
		t.Errorf("%s: Meet of %s that ends with %d and %s that ends with %d tells %d, and %d the other way round, want %d", name, brief(a), aEnd, brief(b), bEnd, got, back, want)
	}
	return got
}

func ofs(t *testing.T, name string, bs []api.Batch) []api.Epo {
	t.Helper()
	want := wordsOf(bs)
	x := append(copies(bs), api.Batch{Base: top, Epoch: topGen}, api.Batch{Base: 3})
	was := copies(x)
	got := epoch.Of(x[:len(bs)])
	if !reflect.DeepEqual(x, was) {
		t.Errorf("%s: %d batches were changed, or the room behind them", name, len(bs))
	}
	clear(x)
	if !slices.Equal(got, want) || wordsCheck(got) != api.OK {
		t.Errorf("%s: Of %d batches tells %s, want %s", name, len(bs), brief(got), brief(want))
	}
	return got
}

// copies are batches with lists of their own.
func copies(bs []api.Batch) []api.Batch {
	x := slices.Clone(bs)
	for i := range x {
		x[i].Recs = slices.Clone(x[i].Recs)
	}
	return x
}
