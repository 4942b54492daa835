package chain_test

import (
	"bytes"
	"fmt"
	"reflect"
	"slices"
	"strings"
	"testing"

	"watermeet/api"
	"watermeet/batch"
	"watermeet/chain"
	"watermeet/seg"
)

// The limits as the chapter tells them, so that one that moves is seen.
const (
	top      = 1 << 40
	lowLimit = 256
	topLimit = 4096
	mostSegs = 256
)

// words has the chapter's words, followed slowly, on what the layers below tell of batches and segments.

func wordsWhole(s api.Seg) bool {
	_, good := seg.Scan(s)
	return s.Base >= 0 && s.Base <= top && good == len(s.Bytes)
}

func wordsBehind(ahead, s api.Seg) bool { return s.Base > ahead.Base && s.Base >= seg.End(ahead) }

func wordsHead(l api.Log) bool {
	return l.Limit >= lowLimit && l.Limit <= topLimit && l.Start >= 0 && l.Start <= top && len(l.Segs) > 0
}

func wordsCheck(l api.Log) api.Errno {
	if !wordsHead(l) {
		return api.ErrArg
	}
	for i, s := range l.Segs {
		if len(s.Bytes) > l.Limit || !wordsWhole(s) || i > 0 && !wordsBehind(l.Segs[i-1], s) {
			return api.ErrArg
		}
	}
	if len(l.Segs) > mostSegs {
		return api.ErrBound
	}
	return api.OK
}

func wordsNew(limit, start int) (api.Log, api.Errno) {
	l := api.Log{Limit: limit, Start: start, Segs: []api.Seg{{Base: start}}}
	if !wordsHead(l) {
		return api.Log{}, api.ErrArg
	}
	return l, api.OK
}

func wordsEnd(l api.Log) int {
	if wordsCheck(l) != api.OK {
		return 0
	}
	end := l.Start
	for _, s := range l.Segs {
		end = max(end, seg.End(s))
	}
	return end
}

func wordsAll(l api.Log) []api.Batch {
	if wordsCheck(l) != api.OK {
		return nil
	}
	var x []api.Batch
	for _, s := range l.Segs {
		all, _ := seg.Scan(s)
		for _, b := range all {
			if b.Last >= l.Start {
				x = append(x, b)
			}
		}
	}
	return x
}

func wordsAppend(l api.Log, b api.Batch) (api.Log, api.Errno) {
	if e := wordsCheck(l); e != api.OK {
		return api.Log{}, e
	}
	if e := batch.Check(b); e != api.OK {
		return api.Log{}, e
	}
	if b.Base < wordsEnd(l) {
		return api.Log{}, api.ErrOrder
	}
	if batch.Size(b) > l.Limit {
		return api.Log{}, api.ErrRoom
	}
	x := deep(l)
	last := &x.Segs[len(x.Segs)-1]
	if len(last.Bytes)+batch.Size(b) <= l.Limit {
		last.Bytes = append(last.Bytes, bytesOf(b)...)
		return x, api.OK
	}
	if len(x.Segs) == mostSegs {
		return api.Log{}, api.ErrBound
	}
	x.Segs = append(x.Segs, segOf(b.Base, b))
	return x, api.OK
}

// wordsRead looks for the greatest number of batches that have so few bytes.
func wordsRead(l api.Log, from, most int) ([]api.Batch, api.Errno) {
	if e := wordsCheck(l); e != api.OK {
		return nil, e
	}
	if most < 0 {
		return nil, api.ErrArg
	}
	if from < l.Start || from > wordsEnd(l) {
		return nil, api.ErrRange
	}
	x := slices.DeleteFunc(wordsAll(l), func(b api.Batch) bool { return b.Last < from })
	n := len(x)
	for n > 1 && len(bytesOf(x[:n]...)) > most {
		n--
	}
	return x[:n], api.OK
}

func wordsTruncate(l api.Log, to int) (api.Log, api.Errno) {
	if e := wordsCheck(l); e != api.OK {
		return api.Log{}, e
	}
	if to < l.Start || to > wordsEnd(l) {
		return api.Log{}, api.ErrRange
	}
	x := api.Log{Limit: l.Limit, Start: l.Start}
	for _, s := range l.Segs {
		all, _ := seg.Scan(s)
		if i := slices.IndexFunc(all, func(b api.Batch) bool { return b.Last >= to }); i >= 0 {
			all = all[:i]
		}
		if s.Base < to {
			x.Segs = append(x.Segs, segOf(s.Base, all...))
		}
	}
	if len(x.Segs) == 0 {
		x.Segs = []api.Seg{{Base: to}}
	}
	return x, api.OK
}

func wordsTrim(l api.Log, start int) (api.Log, api.Errno) {
	if e := wordsCheck(l); e != api.OK {
		return api.Log{}, e
	}
	if start < 0 || start > top || start < l.Start || start > wordsEnd(l) {
		return api.Log{}, api.ErrRange
	}
	x := deep(l)
	x.Start = start
	for len(x.Segs) > 1 && seg.End(x.Segs[0]) <= start {
		x.Segs = x.Segs[1:]
	}
	return x, api.OK
}

func wordsReplace(l api.Log, n int, bs []api.Batch) (api.Log, api.Errno) {
	if e := wordsCheck(l); e != api.OK {
		return api.Log{}, e
	}
	if n < 0 || n > len(l.Segs)-2 {
		return api.Log{}, api.ErrRange
	}
	s, e := seg.Of(l.Segs[n].Base, bs, l.Limit)
	if e != api.OK {
		return api.Log{}, e
	}
	if seg.End(s) > l.Segs[n+1].Base {
		return api.Log{}, api.ErrOrder
	}
	x := deep(l)
	x.Segs[n] = s
	return x, api.OK
}

func wordsRecover(l api.Log) (api.Log, int) {
	if !wordsHead(l) || l.Segs[0].Base < 0 || l.Segs[0].Base > top {
		return api.Log{}, 0
	}
	x := api.Log{Limit: l.Limit, Start: l.Start}
	for i, s := range l.Segs {
		if i > 0 && (!wordsWhole(l.Segs[i-1]) || !wordsBehind(l.Segs[i-1], s)) {
			break
		}
		fixed, _ := seg.Fix(s)
		x.Segs = append(x.Segs, fixed)
	}
	return x, sizeOf(l) - sizeOf(x)
}

// bytesOf is batches' bytes, one behind the other, in whatever order; each has to be one that may be.
func bytesOf(l ...api.Batch) []byte {
	var x []byte
	for _, b := range l {
		y, e := batch.Put(b)
		if e != api.OK {
			panic(fmt.Sprintf("the test has a batch that may not be: %d: %+v", e, b))
		}
		x = append(x, y...)
	}
	return x
}

// segOf is batches' bytes in a segment of that Base, whether they follow each other or not.
func segOf(base int, l ...api.Batch) api.Seg { return api.Seg{Base: base, Bytes: bytesOf(l...)} }

func logOf(limit, start int, segs ...api.Seg) api.Log {
	return api.Log{Limit: limit, Start: start, Segs: segs}
}

// sizeOf is how many bytes a log has.
func sizeOf(l api.Log) int {
	n := 0
	for _, s := range l.Segs {
		n += len(s.Bytes)
	}
	return n
}

func deep(l api.Log) api.Log {
	segs := slices.Clone(l.Segs)
	for i := range segs {
		segs[i].Bytes = bytes.Clone(segs[i].Bytes)
	}
	return api.Log{Limit: l.Limit, Start: l.Start, Segs: segs}
}

// with is a log whose segment of that number is another one.
func with(l api.Log, n int, s api.Seg) api.Log {
	x := deep(l)
	x.Segs[n] = s
	return x
}

func sameSegs(a, b []api.Seg) bool {
	return slices.EqualFunc(a, b, func(x, y api.Seg) bool { return x.Base == y.Base && bytes.Equal(x.Bytes, y.Bytes) })
}

func same(a, b api.Log) bool {
	return a.Limit == b.Limit && a.Start == b.Start && sameSegs(a.Segs, b.Segs)
}

// alike tells whether lists of batches are the same; it does not ask the program.
func alike(a, b []api.Batch) bool {
	return slices.EqualFunc(a, b, func(x, y api.Batch) bool {
		if len(x.Recs) == 0 && len(y.Recs) == 0 {
			x.Recs, y.Recs = nil, nil
		}
		return reflect.DeepEqual(x, y)
	})
}

// brief tells a log, or a list of batches, in few words.
func brief(l api.Log) string {
	var x []string
	for _, s := range l.Segs {
		x = append(x, fmt.Sprintf("%d: %d bytes", s.Base, len(s.Bytes)))
	}
	return fmt.Sprintf("{Limit %d, Start %d, %s}", l.Limit, l.Start, few(x))
}

func briefly(l []api.Batch) string {
	var x []string
	for _, b := range l {
		x = append(x, fmt.Sprintf("%d-%d(%d)", b.Base, b.Last, len(b.Recs)))
	}
	return few(x)
}

func few(x []string) string {
	n := len(x)
	if n > 8 {
		x = append(x[:8], "..")
	}
	return fmt.Sprintf("%d of [%s]", n, strings.Join(x, ", "))
}

// copies are batches with lists of their own, with room behind these that holds something.
func copies(l []api.Batch) []api.Batch {
	var x []api.Batch
	for _, b := range l {
		if b.Recs != nil {
			b.Recs = append(slices.Clone(b.Recs), api.Rec{Off: 77, Key: "room"}, api.Rec{Off: 78})[:len(b.Recs)]
		}
		x = append(x, b)
	}
	return append(x, api.Batch{Base: 77}, api.Batch{Base: 78})[:len(l)]
}

// allOf is batches with what stands in the room behind them.
func allOf(l []api.Batch) (x []api.Batch) {
	for _, b := range l[:cap(l)] {
		b.Recs = slices.Clone(b.Recs[:cap(b.Recs)])
		x = append(x, b)
	}
	return x
}

// roomy is a log with lists of its own, and room behind them that holds whole batches, and a whole segment: who reads on into it, or writes there, is seen.
func roomy(l api.Log) api.Log {
	var segs []api.Seg
	end := 0
	for _, s := range l.Segs {
		end = min(max(end, seg.End(s)), top)
		x := slices.Concat(s.Bytes, bytesOf(cleaned(end, 1)), bytes.Repeat([]byte{99}, 40))
		segs = append(segs, api.Seg{Base: s.Base, Bytes: x[:len(s.Bytes)]})
	}
	segs = append(segs, segOf(end, cleaned(end, 1)), api.Seg{Base: 78})
	return api.Log{Limit: l.Limit, Start: l.Start, Segs: segs[:len(l.Segs)]}
}

// room is a log with what stands in the room behind its lists.
func room(l api.Log) api.Log {
	x := api.Log{Limit: l.Limit, Start: l.Start, Segs: slices.Clone(l.Segs[:cap(l.Segs)])}
	for i, s := range x.Segs {
		x.Segs[i].Bytes = bytes.Clone(s.Bytes[:cap(s.Bytes)])
	}
	return x
}

// scribble writes over all that a log has, and over the room behind it.
func scribble(l api.Log) {
	segs := l.Segs[:cap(l.Segs)]
	for i, s := range segs {
		all := s.Bytes[:cap(s.Bytes)]
		for k := range all {
			all[k] ^= 255
		}
		segs[i] = api.Seg{Base: -7}
	}
}

// scribbleBatches does so with batches.
func scribbleBatches(l []api.Batch) {
	for _, b := range l {
		clear(b.Recs[:cap(b.Recs)])
	}
	clear(l[:cap(l)])
}

// stays hands a roomy copy of a log and of batches on, and fails, unless these are as they were behind the call; then it writes over them.
func stays(t *testing.T, name string, l api.Log, bs []api.Batch, call func(l api.Log, bs []api.Batch)) {
	t.Helper()
	x, y := roomy(l), copies(bs)
	was, wasBs := room(x), allOf(y)
	call(x, y)
	if !same(room(x), was) {
		t.Errorf("%s: %s was changed, or the room behind it", name, brief(l))
	}
	if !alike(allOf(y), wasBs) {
		t.Errorf("%s: %s were changed, or the room behind them", name, briefly(bs))
	}
	scribble(x)
	scribbleBatches(y)
}

// The faces, in a form that is held against the words. What is told is looked at behind the call, when what was handed in has been written over.

func holds(t *testing.T, name, call string, l, got, want api.Log, gotE, e api.Errno) {
	t.Helper()
	if gotE != e || !same(got, want) {
		t.Errorf("%s: %s of %s tells %s, %d, want %s, %d", name, call, brief(l), brief(got), gotE, brief(want), e)
	}
	if gotE != api.OK && !same(got, api.Log{}) {
		t.Errorf("%s: with error %d %s tells %s", name, gotE, call, brief(got))
	}
}

func checks(t *testing.T, name string, l api.Log) api.Errno {
	t.Helper()
	var e api.Errno
	var end int
	var all []api.Batch
	stays(t, name, l, nil, func(l api.Log, _ []api.Batch) { e = chain.Check(l) })
	stays(t, name, l, nil, func(l api.Log, _ []api.Batch) { end = chain.End(l) })
	stays(t, name, l, nil, func(l api.Log, _ []api.Batch) { all = chain.All(l) })
	if want := wordsCheck(l); e != want {
		t.Errorf("%s: Check of %s tells %d, want %d", name, brief(l), e, want)
	}
	if want := wordsEnd(l); end != want {
		t.Errorf("%s: End of %s tells %d, want %d", name, brief(l), end, want)
	}
	if want := wordsAll(l); !alike(all, want) {
		t.Errorf("%s: All of %s tells %s, want %s", name, brief(l), briefly(all), briefly(want))
	}
	return e
}

func appends(t *testing.T, name string, l api.Log, b api.Batch) (api.Log, api.Errno) {
	t.Helper()
	want, e := wordsAppend(l, b)
	var got api.Log
	var gotE api.Errno
	stays(t, name, l, []api.Batch{b}, func(l api.Log, bs []api.Batch) { got, gotE = chain.Append(l, bs[0]) })
	holds(t, name, "Append of "+briefly([]api.Batch{b}), l, got, want, gotE, e)
	if e == api.OK && wordsCheck(got) != api.OK {
		t.Errorf("%s: Append to %s tells a log that may not be: %s", name, brief(l), brief(got))
	}
	return got, gotE
}

func reads(t *testing.T, name string, l api.Log, from, most int) ([]api.Batch, api.Errno) {
	t.Helper()
	want, e := wordsRead(l, from, most)
	var got []api.Batch
	var gotE api.Errno
	stays(t, name, l, nil, func(l api.Log, _ []api.Batch) { got, gotE = chain.Read(l, from, most) })
	if gotE != e || !alike(got, want) || e != api.OK && len(got) > 0 {
		t.Errorf("%s: Read of %s from %d, most %d, tells %s, %d, want %s, %d", name, brief(l), from, most, briefly(got), gotE, briefly(want), e)
	}
	return got, gotE
}

func truncates(t *testing.T, name string, l api.Log, to int) (api.Log, api.Errno) {
	t.Helper()
	want, e := wordsTruncate(l, to)
	var got api.Log
	var gotE api.Errno
	stays(t, name, l, nil, func(l api.Log, _ []api.Batch) { got, gotE = chain.Truncate(l, to) })
	holds(t, name, fmt.Sprint("Truncate to ", to), l, got, want, gotE, e)
	if e == api.OK && wordsCheck(got) != api.OK {
		t.Errorf("%s: Truncate of %s to %d tells a log that may not be: %s", name, brief(l), to, brief(got))
	}
	return got, gotE
}

func trims(t *testing.T, name string, l api.Log, start int) (api.Log, api.Errno) {
	t.Helper()
	want, e := wordsTrim(l, start)
	var got api.Log
	var gotE api.Errno
	stays(t, name, l, nil, func(l api.Log, _ []api.Batch) { got, gotE = chain.Trim(l, start) })
	holds(t, name, fmt.Sprint("Trim to ", start), l, got, want, gotE, e)
	if e == api.OK && wordsCheck(got) != api.OK {
		t.Errorf("%s: Trim of %s to %d tells a log that may not be: %s", name, brief(l), start, brief(got))
	}
	return got, gotE
}

func replaces(t *testing.T, name string, l api.Log, n int, bs []api.Batch) (api.Log, api.Errno) {
	t.Helper()
	want, e := wordsReplace(l, n, bs)
	var got api.Log
	var gotE api.Errno
	stays(t, name, l, bs, func(l api.Log, bs []api.Batch) { got, gotE = chain.Replace(l, n, bs) })
	holds(t, name, fmt.Sprint("Replace of ", n, " by ", briefly(bs)), l, got, want, gotE, e)
	if e == api.OK && wordsCheck(got) != api.OK {
		t.Errorf("%s: Replace of %d of %s by %s tells a log that may not be: %s", name, n, brief(l), briefly(bs), brief(got))
	}
	return got, gotE
}

func recovers(t *testing.T, name string, l api.Log) (api.Log, int) {
	t.Helper()
	want, wantLost := wordsRecover(l)
	var got api.Log
	var lost int
	stays(t, name, l, nil, func(l api.Log, _ []api.Batch) { got, lost = chain.Recover(l) })
	if lost != wantLost || !same(got, want) {
		t.Errorf("%s: Recover of %s tells %s, %d lost, want %s, %d", name, brief(l), brief(got), lost, brief(want), wantLost)
	}
	return got, lost
}
