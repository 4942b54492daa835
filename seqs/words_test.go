package seqs_test

import (
	"encoding/binary"
	"fmt"
	"hash/crc32"
	"reflect"
	"slices"
	"testing"

	"watermeet/api"
	"watermeet/batch"
	"watermeet/seqs"
)

// The limits as the chapter tells them, so that one that moves is seen.
const (
	topGen = 1 << 20
	top    = 1 << 40
	most   = 1024
)

// words has the chapter's words, followed slowly.

func wordsCheck(l []api.Prod) api.Errno {
	if len(l) > most {
		return api.ErrBound
	}
	for i, p := range l {
		if p.Pid < 0 || p.Pid > top || p.Gen < 0 || p.Gen > topGen || len(p.Did) > 5 {
			return api.ErrArg
		}
		if i > 0 && !(p.Pid > l[i-1].Pid) {
			return api.ErrArg
		}
		for k, d := range p.Did {
			if !(0 <= d.Seq && d.Seq <= d.Last && d.Last <= topGen) || d.Base < 0 || d.Base > top {
				return api.ErrArg
			}
			if k > 0 && d.Seq-p.Did[k-1].Last != 1 {
				return api.ErrArg
			}
		}
	}
	return api.OK
}

// wordsOne is the producer of that number, if there is one.
func wordsOne(l []api.Prod, pid int) (api.Prod, bool) {
	for _, p := range l {
		if p.Pid == pid {
			return p, true
		}
	}
	return api.Prod{}, false
}

func wordsLast(b api.Batch) int { return b.Seq + b.Last - b.Base }

func wordsLook(l []api.Prod, b api.Batch) (int, bool, api.Errno) {
	if e := wordsCheck(l); e != api.OK {
		return 0, false, e
	}
	if e := batch.Check(b); e != api.OK {
		return 0, false, e
	}
	if b.Pid == -1 {
		return 0, false, api.OK
	}
	p, is := wordsOne(l, b.Pid)
	if is && p.Gen > b.Gen {
		return 0, false, api.ErrFence
	}
	if b.Ctl != api.Data {
		return 0, false, api.OK
	}
	if !is || p.Gen < b.Gen || len(p.Did) == 0 {
		if b.Seq != 0 {
			return 0, false, api.ErrSeq
		}
		return 0, false, api.OK
	}
	for _, d := range p.Did {
		if d.Seq == b.Seq && d.Last == wordsLast(b) {
			return d.Base, true, api.OK
		}
	}
	if b.Seq != p.Did[len(p.Did)-1].Last+1 {
		return 0, false, api.ErrSeq
	}
	return 0, false, api.OK
}

// wordsWith are producers with this one, in its place, and without another one of its number; all is new.
func wordsWith(l []api.Prod, p api.Prod) []api.Prod {
	x := []api.Prod{p}
	for _, q := range l {
		if q.Pid != p.Pid {
			x = append(x, q)
		}
	}
	slices.SortFunc(x, func(a, b api.Prod) int { return a.Pid - b.Pid })
	return copied(x)
}

func wordsPut(l []api.Prod, b api.Batch) ([]api.Prod, api.Errno) {
	_, there, e := wordsLook(l, b)
	if e != api.OK {
		return nil, e
	}
	p, is := wordsOne(l, b.Pid)
	if b.Pid != -1 && !is && len(l) == most {
		return nil, api.ErrBound
	}
	if there || b.Pid == -1 {
		return copied(l), api.OK
	}
	x := api.Prod{Pid: b.Pid, Gen: b.Gen}
	if is && p.Gen == b.Gen {
		x.Did = slices.Clone(p.Did)
	}
	if b.Ctl == api.Data {
		x.Did = append(x.Did, api.Did{Seq: b.Seq, Last: wordsLast(b), Base: b.Base})
	}
	if len(x.Did) > 5 {
		x.Did = x.Did[1:]
	}
	return wordsWith(l, x), api.OK
}

func wordsOf(bs []api.Batch) []api.Prod {
	var l []api.Prod
	for _, b := range bs {
		x, e := wordsPut(l, b)
		if e == api.OK {
			l = x
		}
		if e != api.ErrSeq {
			continue
		}
		p, is := wordsOne(l, b.Pid)
		if !is || p.Gen < b.Gen || len(p.Did) == 0 || b.Seq > p.Did[len(p.Did)-1].Last {
			if x := wordsWith(l, api.Prod{Pid: b.Pid, Gen: b.Gen, Did: []api.Did{{Seq: b.Seq, Last: wordsLast(b), Base: b.Base}}}); len(x) <= most {
				l = x
			}
		}
	}
	return l
}

// plain are the bytes of numbers.
func plain(l ...int) []byte {
	var b []byte
	for _, n := range l {
		b = binary.AppendVarint(b, int64(n))
	}
	return b
}

// sealed are bytes with their sum.
func sealed(b []byte) []byte {
	return binary.BigEndian.AppendUint32(slices.Clone(b), crc32.ChecksumIEEE(b))
}

// numbersOf are the numbers that Save puts.
func numbersOf(l []api.Prod) []int {
	x := []int{len(l)}
	for _, p := range l {
		x = append(x, p.Pid, p.Gen, len(p.Did))
		for _, d := range p.Did {
			x = append(x, d.Seq, d.Last, d.Base)
		}
	}
	return x
}

func wordsSave(l []api.Prod) ([]byte, api.Errno) {
	if e := wordsCheck(l); e != api.OK {
		return nil, e
	}
	return sealed(plain(numbersOf(l)...)), api.OK
}

// wordsLoad reads whatever stands there, and asks then whether it has these bytes.
func wordsLoad(b []byte) ([]api.Prod, api.Errno) {
	if len(b) < 4 {
		return nil, api.ErrShort
	}
	body := b[:len(b)-4]
	if !slices.Equal(sealed(body), b) {
		return nil, api.ErrSum
	}
	next := func() int {
		n, k := binary.Varint(body)
		body = body[max(k, 0):]
		return int(n)
	}
	var l []api.Prod
	for range min(next(), 2000) {
		p := api.Prod{Pid: next(), Gen: next()}
		for range min(next(), 10) {
			p.Did = append(p.Did, api.Did{Seq: next(), Last: next(), Base: next()})
		}
		l = append(l, p)
	}
	if own, e := wordsSave(l); e != api.OK || !slices.Equal(own, b) {
		return nil, api.ErrForm
	}
	return l, api.OK
}

// copied are producers with lists of their own.
func copied(l []api.Prod) []api.Prod {
	x := slices.Clone(l)
	for i := range x {
		x[i].Did = slices.Clone(x[i].Did)
	}
	return x
}

func same(a, b []api.Prod) bool {
	return slices.EqualFunc(a, b, func(x, y api.Prod) bool {
		return x.Pid == y.Pid && x.Gen == y.Gen && slices.Equal(x.Did, y.Did)
	})
}

// brief tells producers in few words.
func brief(l []api.Prod) string {
	var x []string
	for _, p := range l[:min(len(l), 8)] {
		x = append(x, fmt.Sprintf("%d:%d%v", p.Pid, p.Gen, p.Did[:min(len(p.Did), 8)]))
	}
	return fmt.Sprintf("%d of %v", len(l), x)
}

// briefly tells a batch in few words.
func briefly(b api.Batch) string {
	return fmt.Sprintf("%d to %d of %d, Gen %d, Seq %d, Ctl %d", b.Base, b.Last, b.Pid, b.Gen, b.Seq, b.Ctl)
}

// roomy are lists of their own, with room behind each that holds what may follow: who reads on into it, or writes there, is seen.
func roomy(l []api.Prod) []api.Prod {
	end := api.Prod{Pid: -1}
	if len(l) > 0 {
		end = l[len(l)-1]
	}
	x := slices.Concat(l, []api.Prod{{Pid: end.Pid + 1, Gen: 1}, {Pid: end.Pid + 2}, {Pid: -7}})
	for i, p := range x {
		last := api.Did{Last: -1}
		if n := len(p.Did); n > 0 {
			last = p.Did[n-1]
		}
		did := slices.Concat(p.Did, []api.Did{{Seq: last.Last + 1, Last: last.Last + 1, Base: 5}, {Seq: -7}})
		x[i].Did = did[:len(p.Did)]
	}
	return x[:len(l)]
}

// room are lists with what stands in the room behind each.
func room(l []api.Prod) []api.Prod {
	x := slices.Clone(l[:cap(l)])
	for i, p := range x {
		x[i].Did = slices.Clone(p.Did[:cap(p.Did)])
	}
	return x
}

// scribble writes over all that lists have, and over the room behind each.
func scribble(l []api.Prod) {
	l = l[:cap(l)]
	for i, p := range l {
		did := p.Did[:cap(p.Did)]
		for k := range did {
			did[k] = api.Did{Seq: -5, Last: -5, Base: -5}
		}
		l[i].Pid, l[i].Gen = -5, -5
	}
}

// stays hands roomy copies of producers and of a batch on, and fails, unless these are as they were behind the call; then it writes over them.
func stays(t *testing.T, name string, l []api.Prod, b api.Batch, call func(l []api.Prod, b api.Batch)) {
	t.Helper()
	x, y := roomy(l), b
	y.Recs = slices.Concat(b.Recs, []api.Rec{{Off: b.Last + 1}, {Off: -7}})
	was, wasRecs := room(x), slices.Clone(y.Recs)
	y.Recs = y.Recs[:len(b.Recs)]
	call(x, y)
	if !same(room(x), was) {
		t.Errorf("%s: %s was changed, or the room behind it", name, brief(l))
	}
	if !slices.Equal(y.Recs[:cap(y.Recs)][:len(wasRecs)], wasRecs) {
		t.Errorf("%s: the records of %s were changed, or the room behind them", name, briefly(b))
	}
	scribble(x)
	clear(y.Recs)
}

// The faces, in a form that is held against the words. What is told is looked at behind the call, when what was handed in has been written over.

func checks(t *testing.T, name string, l []api.Prod) api.Errno {
	t.Helper()
	var e api.Errno
	stays(t, name, l, api.Batch{}, func(l []api.Prod, _ api.Batch) { e = seqs.Check(l) })
	if want := wordsCheck(l); e != want {
		t.Errorf("%s: Check of %s tells %d, want %d", name, brief(l), e, want)
	}
	return e
}

func looks(t *testing.T, name string, l []api.Prod, b api.Batch) (int, bool, api.Errno) {
	t.Helper()
	want, wantThere, wantE := wordsLook(l, b)
	var base int
	var there bool
	var e api.Errno
	stays(t, name, l, b, func(l []api.Prod, b api.Batch) { base, there, e = seqs.Look(l, b) })
	if base != want || there != wantThere || e != wantE {
		t.Errorf("%s: Look of %s in %s tells %d, %v, %d, want %d, %v, %d", name, briefly(b), brief(l), base, there, e, want, wantThere, wantE)
	}
	if (e != api.OK || !there) && base != 0 || e != api.OK && there {
		t.Errorf("%s: Look of %s in %s tells %d, %v beside %d", name, briefly(b), brief(l), base, there, e)
	}
	return base, there, e
}

func puts(t *testing.T, name string, l []api.Prod, b api.Batch) ([]api.Prod, api.Errno) {
	t.Helper()
	want, wantE := wordsPut(l, b)
	var got []api.Prod
	var e api.Errno
	stays(t, name, l, b, func(l []api.Prod, b api.Batch) { got, e = seqs.Put(l, b) })
	if e != wantE || !same(got, want) {
		t.Errorf("%s: Put of %s behind %s tells %s, %d, want %s, %d", name, briefly(b), brief(l), brief(got), e, brief(want), wantE)
	}
	if e != api.OK && len(got) > 0 || e == api.OK && wordsCheck(got) != api.OK {
		t.Errorf("%s: Put of %s behind %s tells %s beside %d", name, briefly(b), brief(l), brief(got), e)
	}
	return got, e
}

func ofs(t *testing.T, name string, bs []api.Batch) []api.Prod {
	t.Helper()
	want := wordsOf(bs)
	x := append(copies(bs), sent(1, 1, 0, 0, 1), sent(top, 0, 0, 0, 1))
	was := copies(x)
	got := seqs.Of(x[:len(bs)])
	if !reflect.DeepEqual(x, was) {
		t.Errorf("%s: %d batches were changed, or the room behind them", name, len(bs))
	}
	for _, b := range x {
		clear(b.Recs)
	}
	clear(x)
	if !same(got, want) || wordsCheck(got) != api.OK {
		t.Errorf("%s: Of %d batches tells %s, want %s", name, len(bs), brief(got), brief(want))
	}
	return got
}

func saves(t *testing.T, name string, l []api.Prod) ([]byte, api.Errno) {
	t.Helper()
	want, wantE := wordsSave(l)
	var got []byte
	var e api.Errno
	stays(t, name, l, api.Batch{}, func(l []api.Prod, _ api.Batch) { got, e = seqs.Save(l) })
	if e != wantE || !slices.Equal(got, want) {
		t.Errorf("%s: Save of %s tells %v, %d, want %v, %d", name, brief(l), got, e, want, wantE)
	}
	if e != api.OK && len(got) > 0 {
		t.Errorf("%s: Save of %s tells %v beside %d", name, brief(l), got, e)
	}
	return got, e
}

func loads(t *testing.T, name string, b []byte) ([]api.Prod, api.Errno) {
	t.Helper()
	want, wantE := wordsLoad(b)
	// The room behind b holds what might be read on as numbers.
	x := slices.Concat(b, []byte{0, 2, 4, 6, 8, 10})
	was := slices.Clone(x)
	got, e := seqs.Load(x[:len(b)])
	if !slices.Equal(x, was) {
		t.Errorf("%s: %d bytes were changed, or the room behind them", name, len(b))
	}
	clear(x)
	if e != wantE || !same(got, want) {
		t.Errorf("%s: Load of %v tells %s, %d, want %s, %d", name, b[:min(len(b), 60)], brief(got), e, brief(want), wantE)
	}
	if e != api.OK && len(got) > 0 || e == api.OK && wordsCheck(got) != api.OK {
		t.Errorf("%s: Load of %v tells %s beside %d", name, b[:min(len(b), 60)], brief(got), e)
	}
	return got, e
}

// copies are batches with lists of their own.
func copies(bs []api.Batch) []api.Batch {
	x := slices.Clone(bs)
	for i := range x {
		x[i].Recs = slices.Clone(x[i].Recs)
	}
	return x
}
