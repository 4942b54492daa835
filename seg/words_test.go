package seg_test

import (
	"bytes"
	"fmt"
	"math"
	"reflect"
	"slices"
	"strings"
	"testing"

	"watermeet/api"
	"watermeet/batch"
	"watermeet/seg"
)

// The limits as the chapter tells them, so that one that moves is seen.
const (
	top     = 1 << 40
	topSize = 4096
)

// words has the chapter's words, followed slowly, on what the layer below tells of bytes and batches.

// wordsScan is a segment's batches, and how many bytes they take.
func wordsScan(s api.Seg) (l []api.Batch, good int) {
	for {
		b, size, e := batch.Get(s.Bytes[good:], 0)
		if e != api.OK || b.Base < s.Base {
			return l, good
		}
		if len(l) > 0 && b.Base <= l[len(l)-1].Last {
			return l, good
		}
		l, good = append(l, b), good+size
	}
}

func wordsEnd(s api.Seg) int {
	l, _ := wordsScan(s)
	if len(l) == 0 {
		return s.Base
	}
	return l[len(l)-1].Last + 1
}

func wordsWhole(s api.Seg) bool {
	_, good := wordsScan(s)
	return s.Base >= 0 && s.Base <= top && good == len(s.Bytes)
}

func wordsAppend(s api.Seg, b api.Batch, limit int) (api.Seg, api.Errno) {
	x, e := batch.Put(b)
	switch {
	case !wordsWhole(s), limit < 1, limit > topSize:
		return api.Seg{}, api.ErrArg
	case e != api.OK:
		return api.Seg{}, e
	case b.Base < wordsEnd(s):
		return api.Seg{}, api.ErrOrder
	case len(s.Bytes)+len(x) > limit:
		return api.Seg{}, api.ErrRoom
	}
	return api.Seg{Base: s.Base, Bytes: append(slices.Clone(s.Bytes), x...)}, api.OK
}

func wordsOf(base int, l []api.Batch, limit int) (api.Seg, api.Errno) {
	if base < 0 || base > top || limit < 1 || limit > topSize {
		return api.Seg{}, api.ErrArg
	}
	s, e := api.Seg{Base: base}, api.OK
	for _, b := range l {
		if s, e = wordsAppend(s, b, limit); e != api.OK {
			return api.Seg{}, e
		}
	}
	return s, api.OK
}

func wordsCut(s api.Seg, off int) api.Seg {
	l, _ := wordsScan(s)
	x := api.Seg{Base: s.Base}
	for _, b := range l {
		if b.Last >= off {
			return x
		}
		x.Bytes = append(x.Bytes, bytesOf(b)...)
	}
	return x
}

// bytesOf is batches' bytes, one behind the other, in whatever order; each has to be one that may be.
func bytesOf(l ...api.Batch) []byte {
	var x []byte
	for _, b := range l {
		y, e := batch.Put(b)
		if e != api.OK {
			panic(fmt.Sprintf("the test has a batch that may not be: %d: %+v", e, b))
		}
		x = append(x, y...)
	}
	return x
}

// segOf is batches' bytes in a segment of that Base, whether they follow each other or not, and others behind them.
func segOf(base int, l []api.Batch, more ...byte) api.Seg {
	return api.Seg{Base: base, Bytes: append(bytesOf(l...), more...)}
}

func same(a, b api.Seg) bool { return a.Base == b.Base && bytes.Equal(a.Bytes, b.Bytes) }

func nothing(s api.Seg) bool { return s.Base == 0 && len(s.Bytes) == 0 }

// alike tells whether lists of batches are the same; it does not ask the program.
func alike(a, b []api.Batch) bool {
	return slices.EqualFunc(a, b, func(x, y api.Batch) bool {
		if len(x.Recs) == 0 && len(y.Recs) == 0 {
			x.Recs, y.Recs = nil, nil
		}
		return reflect.DeepEqual(x, y)
	})
}

// brief tells a segment, or a list of batches, in few words.
func brief(s api.Seg) string {
	return fmt.Sprintf("{Base %d, %d bytes: %.60x}", s.Base, len(s.Bytes), s.Bytes)
}

func briefly(l []api.Batch) string {
	var x []string
	for _, b := range l {
		x = append(x, fmt.Sprintf("%d-%d(%d)", b.Base, b.Last, len(b.Recs)))
	}
	if len(x) > 8 {
		x = append(x[:8], "..")
	}
	return fmt.Sprintf("%d batches: %s", len(l), strings.Join(x, " "))
}

// copied is a batch with a list of its own, with room behind it that holds something.
func copied(b api.Batch) api.Batch {
	if b.Recs != nil {
		b.Recs = append(slices.Clone(b.Recs), api.Rec{Off: 77, Key: "room"}, api.Rec{Off: 78})[:len(b.Recs)]
	}
	return b
}

func copies(l []api.Batch) []api.Batch {
	var x []api.Batch
	for _, b := range l {
		x = append(x, copied(b))
	}
	return append(x, api.Batch{Base: 77}, api.Batch{Base: 78})[:len(l)]
}

// roomy is a segment with bytes of its own, and room behind them that holds a whole batch and much else: who reads on into it, or writes there, is seen.
func roomy(s api.Seg) api.Seg {
	behind := bytesOf(data(min(max(wordsEnd(s), 0), top), 1))
	x := slices.Concat(s.Bytes, behind, bytes.Repeat([]byte{99}, topSize))
	return api.Seg{Base: s.Base, Bytes: x[:len(s.Bytes)]}
}

// stays hands a roomy copy of a segment on, and fails, unless that is as it was behind the call.
func stays(t *testing.T, name string, s api.Seg, call func(s api.Seg)) {
	t.Helper()
	x := roomy(s)
	was := slices.Clone(x.Bytes[:cap(x.Bytes)])
	call(x)
	if !bytes.Equal(x.Bytes[:cap(x.Bytes)], was) {
		t.Errorf("%s: %s was changed, or the room behind its bytes", name, brief(s))
	}
}

// batchesStay hands copies of batches on, and fails, unless these are as they were behind the call, with the room behind their lists.
func batchesStay(t *testing.T, name string, l []api.Batch, call func(l []api.Batch)) {
	t.Helper()
	all := func(l []api.Batch) (x []api.Batch) {
		for _, b := range l[:cap(l)] {
			b.Recs = slices.Clone(b.Recs[:cap(b.Recs)])
			x = append(x, b)
		}
		return x
	}
	x := copies(l)
	was := all(x)
	call(x)
	if !alike(all(x), was) {
		t.Errorf("%s: %s were changed", name, briefly(l))
	}
}

// data is a batch of so many offsets, with a record each.
func data(base, many int) api.Batch {
	b := api.Batch{Base: base, Last: base + many - 1, From: base / 2, Pid: -1}
	for i := range many {
		b.Recs = append(b.Recs, api.Rec{Off: base + i, Key: "k", Val: "v", Stamp: i})
	}
	return b
}

// cleaned is a batch of so many offsets that are without records.
func cleaned(base, many int) api.Batch {
	return api.Batch{Base: base, Last: base + many - 1, Pid: -1}
}

// mark is a batch that ends a transaction.
func mark(base, ctl int) api.Batch {
	return api.Batch{Base: base, Last: base, From: base, Epoch: 3, Pid: 2, Gen: 1, Seq: 4, Txn: true, Ctl: ctl}
}

// written is a batch of a producer's, in a transaction, without some of its records.
func written(base int) api.Batch {
	return api.Batch{Base: base, Last: base + 4, From: base/3 + 100, Epoch: 2, Pid: 9, Gen: 1, Seq: 7, Txn: true,
		Recs: []api.Rec{{Off: base + 1, Key: "\x00\xff", Val: "é\n", Stamp: top}, {Off: base + 3, Key: "gone", Dead: true, Stamp: 5}}}
}

// sized is a batch of 16 offsets from base on that has just so many bytes, some 1200 to 2048.
func sized(base, many int) api.Batch {
	b := data(base, 16)
	for i := range b.Recs {
		b.Recs[i].Key, b.Recs[i].Val = strings.Repeat("x", 64), ""
	}
	rest := many - batch.Size(b)
	for i := range b.Recs {
		n := rest / (16 - i)
		b.Recs[i].Val = strings.Repeat("y", n)
		rest -= n
	}
	if batch.Size(b) != many {
		panic(fmt.Sprintf("the test can't make a batch of %d bytes", many))
	}
	return b
}

// tooLong is a batch that has form, and too many bytes.
func tooLong(base int) api.Batch {
	b := data(base, 16)
	for i := range b.Recs {
		b.Recs[i].Key, b.Recs[i].Val = strings.Repeat("x", 64), strings.Repeat("y", 64)
	}
	return b
}

// shortest are so many batches, one behind the other from 0 on, each as short as its Base lets it be: 17 bytes below 64, 18 below 8192.
func shortest(many int) []api.Batch {
	var l []api.Batch
	for i := range many {
		l = append(l, api.Batch{Base: i, Last: i})
	}
	return l
}

// shape is a segment that is whole: its Base, and its batches.
type shape struct {
	name string
	base int
	l    []api.Batch
}

func (s shape) seg() api.Seg { return segOf(s.base, s.l) }

func shapes() []shape {
	var row []api.Batch
	for i := range 100 {
		row = append(row, cleaned(1000+3*i, 1+i%3))
	}
	return []shape{
		{"no batch", 0, nil},
		{"no batch, the chapter's example", 5, nil},
		{"no batch, at the top", top, nil},
		{"one, at the beginning", 0, []api.Batch{data(0, 1)}},
		{"one, at the segment's Base", 7, []api.Batch{data(7, 3)}},
		{"one, above the segment's Base", 7, []api.Batch{data(8, 16)}},
		{"one, far above the segment's Base", 0, []api.Batch{data(top-15, 16)}},
		{"one, at the top", top, []api.Batch{data(top, 1)}},
		{"one, without records", 3, []api.Batch{cleaned(3, 16)}},
		{"a commit", 3, []api.Batch{mark(3, api.Commit)}},
		{"an abort, above the segment's Base", 3, []api.Batch{mark(90, api.Abort)}},
		{"one of most bytes", 1, []api.Batch{sized(1, 2048)}},
		{"two, one behind the other", 5, []api.Batch{data(5, 3), data(8, 2)}},
		{"two with a gap", 5, []api.Batch{data(6, 3), data(20, 2)}},
		{"two of most bytes, as many as a segment has", 0, []api.Batch{sized(0, 2048), sized(16, 2048)}},
		{"two up to the top", top - 1, []api.Batch{mark(top-1, api.Abort), mark(top, api.Commit)}},
		{"data and marks", 5, []api.Batch{data(5, 3), written(8), mark(13, api.Commit), cleaned(14, 2), mark(16, api.Abort), written(30), mark(40, api.Abort), data(41, 1)}},
		{"a hundred", 990, row},
		{"as many as a segment has room for", 0, shortest(231)},
	}
}

// odd is bytes that have something behind the segment's batches, or nothing, in segments of whatever Base: told is how many of l are the segment's.
type odd struct {
	name string
	base int
	l    []api.Batch
	more []byte
	told int
}

func (o odd) seg() api.Seg { return segOf(o.base, o.l, o.more...) }

func odds() []odd {
	two := []api.Batch{data(5, 3), data(8, 2)}
	torn := bytesOf(data(10, 2))
	spoilt := slices.Clone(torn)
	spoilt[len(spoilt)-6] ^= 1
	l := []odd{
		{"one below the segment's Base", 6, []api.Batch{data(5, 3)}, nil, 0},
		{"one below the segment's Base, with Last above it", 6, []api.Batch{data(5, 3), data(8, 2)}, nil, 0},
		{"one far below the segment's Base", top, []api.Batch{data(0, 1), data(top, 1)}, nil, 0},
		{"one below the segment's Base, and one at it", 6, []api.Batch{data(5, 1), data(6, 1)}, nil, 0},
		{"a commit below the segment's Base", 6, []api.Batch{mark(5, api.Commit)}, nil, 0},
		{"the second at Base of the first", 5, []api.Batch{data(5, 3), data(5, 3)}, nil, 1},
		{"the second between Base and Last of the first", 5, []api.Batch{data(5, 3), data(6, 5)}, nil, 1},
		{"the second at Last of the first", 5, []api.Batch{data(5, 3), data(7, 3)}, nil, 1},
		{"the second at Last of the first, which has one offset", 5, []api.Batch{data(5, 1), data(5, 1)}, nil, 1},
		{"the second below the first", 0, []api.Batch{data(5, 3), data(2, 3)}, nil, 1},
		{"the second below the first, and the third above", 0, []api.Batch{data(5, 3), data(4, 1), data(8, 1)}, nil, 1},
		{"the second below the segment's Base", 5, []api.Batch{data(5, 3), data(4, 1)}, nil, 1},
		{"a mark at Last of the one ahead", 5, []api.Batch{written(5), mark(9, api.Commit), data(10, 1)}, nil, 1},
		{"a mark twice", 5, []api.Batch{mark(9, api.Commit), mark(9, api.Abort)}, nil, 1},
		{"the third above the first alone", 5, []api.Batch{data(5, 1), data(10, 3), data(9, 1)}, nil, 2},
		{"the third at Last of the second, which is without records", 5, []api.Batch{data(5, 1), cleaned(10, 3), data(12, 1)}, nil, 2},
		{"all of them twice", 5, slices.Concat(two, two), nil, 2},
		{"the top twice", top, []api.Batch{data(top, 1), data(top, 1)}, nil, 1},
		{"nothing that is a batch", 5, nil, []byte("no batch at all, but more bytes than the shortest one has"), 0},
		{"a zero", 5, nil, []byte{0}, 0},
		{"zeros", 5, two, make([]byte, 64), 2},
		{"zeros, as many as a head has", 5, two, make([]byte, 4), 2},
		{"a byte", 5, two, []byte{1}, 2},
		{"a head that is too short", 5, two, []byte{0, 0, 0, 4, 0, 0, 0, 0}, 2},
		{"a head that is too long", 5, two, append([]byte{0, 0, 7, 253}, make([]byte, 2045)...), 2},
		{"a sealed body that is none", 5, two, []byte{0, 0, 0, 5, 0, 0xD2, 0x02, 0xEF, 0x8D}, 2},
		{"a batch without its last byte", 5, two, torn[:len(torn)-1], 2},
		{"a batch with a changed byte", 5, two, spoilt, 2},
		{"a batch with a changed byte, and a batch", 5, two, slices.Concat(spoilt, bytesOf(data(12, 1))), 2},
		{"a byte between batches", 5, two, slices.Concat([]byte{0}, torn), 2},
		{"more than a segment may have", 0, slices.Concat([]api.Batch{sized(0, 2048), sized(16, 2048)}, []api.Batch{data(32, 1)}), nil, 3},
		{"much more than a segment may have, and a torn one", 0, []api.Batch{sized(0, 2048), sized(16, 2048), sized(32, 2048)}, torn[:9], 3},
	}
	for _, base := range []int{-1, math.MinInt} {
		name := fmt.Sprint("a segment's Base of ", base)
		l = append(l, odd{name + ", no batch", base, nil, nil, 0},
			odd{name + ", two batches", base, []api.Batch{data(0, 2), mark(2, api.Abort)}, nil, 2},
			odd{name + ", two batches, and others", base, []api.Batch{data(0, 2), mark(2, api.Abort)}, torn[:9], 2})
	}
	for _, base := range []int{top + 1, math.MaxInt} {
		name := fmt.Sprint("a segment's Base of ", base)
		l = append(l, odd{name + ", no batch", base, nil, nil, 0}, odd{name + ", a batch", base, []api.Batch{data(top, 1)}, nil, 0})
	}
	return l
}

// anySegs are all of these, as segments, with their names.
func anySegs() map[string]api.Seg {
	l := map[string]api.Seg{}
	for _, x := range shapes() {
		l[x.name] = x.seg()
	}
	for _, x := range odds() {
		l["odd: "+x.name] = x.seg()
	}
	return l
}

// The faces, in a form that is held against the words.

func appends(t *testing.T, name string, s api.Seg, b api.Batch, limit int) api.Errno {
	t.Helper()
	want, e := wordsAppend(s, b, limit)
	stays(t, name, s, func(s api.Seg) {
		batchesStay(t, name, []api.Batch{b}, func(l []api.Batch) {
			got, gotE := seg.Append(s, l[0], limit)
			if gotE != e || !same(got, want) {
				t.Errorf("%s: Append to %s of %s, limit %d, tells %s, %d, want %s, %d", name, brief(s), briefly(l), limit, brief(got), gotE, brief(want), e)
			}
			if gotE != api.OK && !nothing(got) {
				t.Errorf("%s: with error %d Append tells %s", name, gotE, brief(got))
			}
		})
	})
	return e
}

func makes(t *testing.T, name string, base int, l []api.Batch, limit int) api.Errno {
	t.Helper()
	want, e := wordsOf(base, l, limit)
	batchesStay(t, name, l, func(l []api.Batch) {
		got, gotE := seg.Of(base, l, limit)
		if gotE != e || !same(got, want) {
			t.Errorf("%s: Of %d, %s, limit %d, tells %s, %d, want %s, %d", name, base, briefly(l), limit, brief(got), gotE, brief(want), e)
		}
		if gotE != api.OK && !nothing(got) {
			t.Errorf("%s: with error %d Of tells %s", name, gotE, brief(got))
		}
	})
	return e
}
