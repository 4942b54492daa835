package index_test

import (
	"bytes"
	"fmt"
	"math"
	"reflect"
	"slices"
	"strings"
	"testing"

	"watermeet/api"
	"watermeet/batch"
	"watermeet/index"
	"watermeet/seg"
)

// The limits as the chapter tells them, so that one that moves is seen.
const (
	top     = 1 << 40
	topSize = 4096
)

// words has the chapter's words, followed slowly, on what the layers below tell of bytes, batches and segments.

func wordsRight(s api.Seg) bool {
	_, good := seg.Scan(s)
	return s.Base >= 0 && s.Base <= top && len(s.Bytes) <= topSize && good == len(s.Bytes)
}

// wordsEntries are the entries of batches that stand one behind the other.
func wordsEntries(l []api.Batch) []api.Ent {
	var all []api.Ent
	pos, stamps := 0, []int{-1}
	for _, b := range l {
		for _, r := range b.Recs {
			stamps = append(stamps, r.Stamp)
		}
		all = append(all, api.Ent{Off: b.Base, Pos: pos, Stamp: slices.Max(stamps)})
		pos += len(bytesOf(b))
	}
	return all
}

func wordsMake(s api.Seg, every int) ([]api.Ent, api.Errno) {
	if !wordsRight(s) || every < 1 || every > 4096 {
		return nil, api.ErrArg
	}
	batches, _ := seg.Scan(s)
	var l []api.Ent
	for i, x := range wordsEntries(batches) {
		if i == 0 || x.Pos >= l[len(l)-1].Pos+every {
			l = append(l, x)
		}
	}
	return l, api.OK
}

func wordsCheck(s api.Seg, l []api.Ent) api.Errno {
	if !wordsRight(s) {
		return api.ErrArg
	}
	batches, _ := seg.Scan(s)
	all := wordsEntries(batches)
	if len(all) > 0 && !slices.Contains(l, all[0]) {
		return api.ErrArg
	}
	ahead := -1
	for _, x := range l {
		i := slices.Index(all, x)
		if i <= ahead {
			return api.ErrArg
		}
		ahead = i
	}
	return api.OK
}

func wordsFloor(l []api.Ent, off int) int {
	pos := 0
	for _, x := range l {
		if x.Off <= off {
			pos = x.Pos
		}
	}
	return pos
}

func wordsWhen(l []api.Ent, stamp int) int {
	pos := 0
	for _, x := range l {
		if x.Stamp < stamp {
			pos = x.Pos
		}
	}
	return pos
}

// wordsFind looks at the segment's batches alone, whatever the entries are, if they are an index.
func wordsFind(s api.Seg, l []api.Ent, off int) (api.Batch, api.Errno) {
	if e := wordsCheck(s, l); e != api.OK {
		return api.Batch{}, e
	}
	batches, _ := seg.Scan(s)
	for _, b := range batches {
		if b.Last >= off {
			return b, api.OK
		}
	}
	return api.Batch{}, api.ErrRange
}

func wordsSince(s api.Seg, l []api.Ent, stamp int) (int, api.Errno) {
	if e := wordsCheck(s, l); e != api.OK {
		return 0, e
	}
	batches, _ := seg.Scan(s)
	for _, b := range batches {
		for _, r := range b.Recs {
			if r.Stamp >= stamp {
				return r.Off, api.OK
			}
		}
	}
	return 0, api.ErrRange
}

// bytesOf is batches' bytes, one behind the other, in whatever order; each has to be one that may be.
func bytesOf(l ...api.Batch) []byte {
	var x []byte
	for _, b := range l {
		y, e := batch.Put(b)
		if e != api.OK {
			panic(fmt.Sprintf("the test has a batch that may not be: %d: %+v", e, b))
		}
		x = append(x, y...)
	}
	return x
}

// segOf is batches' bytes in a segment of that Base, whether they follow each other or not, and others behind them.
func segOf(base int, l []api.Batch, more ...byte) api.Seg {
	return api.Seg{Base: base, Bytes: append(bytesOf(l...), more...)}
}

// alike tells whether batches are the same; it does not ask the program.
func alike(a, b api.Batch) bool {
	if len(a.Recs) == 0 && len(b.Recs) == 0 {
		a.Recs, b.Recs = nil, nil
	}
	return reflect.DeepEqual(a, b)
}

// brief tells a segment, or entries, in few words.
func brief(s api.Seg) string {
	return fmt.Sprintf("{Base %d, %d bytes: %.40x}", s.Base, len(s.Bytes), s.Bytes)
}

func briefly(l []api.Ent) string {
	if len(l) > 8 {
		return fmt.Sprintf("%d entries: %v ..", len(l), l[:8])
	}
	return fmt.Sprintf("%d entries: %v", len(l), l)
}

// stamped is a batch of an offset for each stamp, with a record each; below 0 its record is missing.
func stamped(base int, stamps ...int) api.Batch {
	b := api.Batch{Base: base, Last: base + len(stamps) - 1, From: base / 2, Pid: -1}
	for i, stamp := range stamps {
		if stamp >= 0 {
			b.Recs = append(b.Recs, api.Rec{Off: base + i, Key: "k", Val: "v", Stamp: stamp})
		}
	}
	return b
}

// cleaned is a batch of so many offsets that are without records.
func cleaned(base, many int) api.Batch {
	return api.Batch{Base: base, Last: base + many - 1, Pid: -1}
}

// mark is a batch that ends a transaction.
func mark(base, ctl int) api.Batch {
	return api.Batch{Base: base, Last: base, From: base, Epoch: 3, Pid: 2, Gen: 1, Seq: 4, Txn: true, Ctl: ctl}
}

// written is a batch of a producer's, of five offsets, in a transaction, without some of its records.
func written(base, stamp int) api.Batch {
	return api.Batch{Base: base, Last: base + 4, From: base/3 + 100, Epoch: 2, Pid: 9, Gen: 1, Seq: 7, Txn: true,
		Recs: []api.Rec{{Off: base + 1, Key: "\x00\xff", Val: "é\n", Stamp: stamp}, {Off: base + 3, Key: "gone", Dead: true, Stamp: stamp / 2}}}
}

// sized is a batch of 16 offsets from base on that has just so many bytes, some 1200 to 2048.
func sized(base, many int) api.Batch {
	b := stamped(base, 3, 9, 1, 4, 0, 2, 12, 5, 11, 7, 6, 8, 10, 14, 13, 15)
	for i := range b.Recs {
		b.Recs[i].Key, b.Recs[i].Val = strings.Repeat("x", 64), ""
	}
	rest := many - batch.Size(b)
	for i := range b.Recs {
		n := rest / (16 - i)
		b.Recs[i].Val = strings.Repeat("y", n)
		rest -= n
	}
	if batch.Size(b) != many {
		panic(fmt.Sprintf("the test can't make a batch of %d bytes", many))
	}
	return b
}

// row is batches of a record each, one behind the other from base on, of those stamps; below 0 the record is missing.
func row(base int, stamps ...int) []api.Batch {
	var l []api.Batch
	for i, stamp := range stamps {
		l = append(l, stamped(base+i, stamp))
	}
	return l
}

// shortest are so many batches, one behind the other from 0 on, each as short as its Base lets it be: 17 bytes below 64, 18 below 8192.
func shortest(many int) []api.Batch {
	var l []api.Batch
	for i := range many {
		l = append(l, api.Batch{Base: i, Last: i})
	}
	return l
}

// full are batches that have just so many bytes together, some 3400 to 4114.
func full(many int) []api.Batch {
	short := cleaned(2000, 1)
	return []api.Batch{sized(20, 2048), sized(300, many-2048-len(bytesOf(short))), short}
}

// shape is a segment that is right: its Base, and its batches.
type shape struct {
	name string
	base int
	l    []api.Batch
}

func (s shape) seg() api.Seg { return segOf(s.base, s.l) }

// example is the chapter's: two batches of records, 0 to 1 and 2, of the stamps 5, 7 and 6.
func example() shape {
	return shape{"the chapter's example", 0, []api.Batch{stamped(0, 5, 7), stamped(2, 6)}}
}

func shapes() []shape {
	var mixed []api.Batch
	for i := range 60 {
		mixed = append(mixed, []api.Batch{stamped(4*i, i*37%29, i*11%31), cleaned(4*i+1, 3), mark(4*i, 1+i%2)}[i*7%5%3])
	}
	return []shape{
		example(),
		{"no batch", 0, nil},
		{"no batch, of Base 5", 5, nil},
		{"no batch, at the top", top, nil},
		{"one, at the beginning", 0, []api.Batch{stamped(0, 4)}},
		{"one, at the segment's Base", 7, []api.Batch{stamped(7, 4, 3, 9, 0)}},
		{"one, above the segment's Base", 7, []api.Batch{stamped(50, 4, -1, 3, -1)}},
		{"one, far above the segment's Base", 0, []api.Batch{stamped(top-1, 0, top)}},
		{"one, at the top", top, []api.Batch{stamped(top, top)}},
		{"one, of the stamp 0", 5, []api.Batch{stamped(5, 0)}},
		{"one, without records", 3, []api.Batch{cleaned(3, 16)}},
		{"a commit", 3, []api.Batch{mark(3, api.Commit)}},
		{"an abort, above the segment's Base", 3, []api.Batch{mark(90, api.Abort)}},
		{"one of most bytes", 1, []api.Batch{sized(1, 2048)}},
		{"two up to the top", top - 3, []api.Batch{stamped(top-3, 6, 2, 1), mark(top, api.Commit)}},
		{"two with a gap", 5, []api.Batch{stamped(6, 1, 8, 2), stamped(20, 3, 9)}},
		{"stamps that rise", 10, row(10, 1, 3, 5, 7, 9, 11, 13)},
		{"stamps that fall", 10, row(10, 13, 11, 9, 7, 5, 3, 1)},
		{"stamps that are the same", 10, row(10, 6, 6, 6, 6, 6, 6)},
		{"stamps that are all 0", 10, row(10, 0, 0, 0, 0)},
		{"stamps that rise and fall", 10, row(10, 5, 2, 5, 9, 0, 9, 12, 11)},
		{"stamps that rise and fall within batches", 0, []api.Batch{stamped(0, 5, 9, 2), stamped(3, 1, 1, 14, 3), stamped(7, 20), stamped(8, 16, 2, 25, 30)}},
		{"batches without records ahead of others", 5, []api.Batch{cleaned(5, 3), mark(8, api.Abort), cleaned(9, 1), stamped(10, 4), stamped(11, 2)}},
		{"batches without records between others, and behind them", 5, []api.Batch{stamped(5, 4, 7), cleaned(7, 3), stamped(10, 6), mark(11, api.Commit), stamped(12, 9), cleaned(13, 1), mark(14, api.Abort)}},
		{"batches without records alone", 5, []api.Batch{cleaned(5, 3), mark(8, api.Commit), cleaned(9, 16), mark(30, api.Abort)}},
		{"records that are missing, at the ends of batches and within", 5, []api.Batch{stamped(5, -1, 4, -1), stamped(8, -1, -1, 9, 3, -1), written(20, 40), mark(25, api.Commit), written(30, 41)}},
		{"all that may be", 5, []api.Batch{stamped(5, 1, top, 0), written(8, 5), mark(13, api.Commit), cleaned(14, 2), mark(16, api.Abort), written(30, 90), mark(40, api.Abort), stamped(41, 8)}},
		{"as many bytes as may be, in two", 0, []api.Batch{sized(0, 2048), sized(16, 2048)}},
		{"as many bytes as may be, in three", 9, full(topSize)},
		{"sixty", 0, mixed},
		{"as many batches as a segment has room for", 0, shortest(231)},
	}
}

// small are those of few batches.
func small() []shape {
	return slices.DeleteFunc(shapes(), func(s shape) bool { return len(s.l) > 8 })
}

// odd is a segment that is not right.
type odd struct {
	name string
	s    api.Seg
}

func odds() []odd {
	two := []api.Batch{stamped(5, 1, 9, 4), stamped(8, 2)}
	torn := bytesOf(stamped(10, 4, 3))
	spoilt := slices.Clone(torn)
	spoilt[len(spoilt)-6] ^= 1
	l := []odd{
		{"a batch below the segment's Base", segOf(6, two)},
		{"a batch at Last of the one ahead", segOf(5, []api.Batch{two[0], stamped(7, 2)})},
		{"a batch twice", segOf(5, []api.Batch{two[0], two[0]})},
		{"a byte", segOf(5, nil, 1)},
		{"zeros", segOf(5, nil, 0, 0, 0, 0)},
		{"batches, and a byte", segOf(5, two, 0)},
		{"batches, and most of one", segOf(5, two, torn[:len(torn)-1]...)},
		{"batches, and a changed one", segOf(5, two, spoilt...)},
		{"the first one is changed", api.Seg{Base: 5, Bytes: slices.Concat(spoilt, bytesOf(stamped(12, 1)))}},
		{"4096 bytes, of which the last one is no batch's", segOf(0, full(topSize-1), 0)},
		{"4097 bytes of batches", segOf(0, full(topSize+1))},
		{"4097 bytes, of which the last one is no batch's", segOf(0, full(topSize), 0)},
		{"very many bytes of batches", segOf(0, []api.Batch{sized(0, 2048), sized(16, 2048), sized(32, 2048)})},
		{"very many bytes", api.Seg{Base: 5, Bytes: make([]byte, 1<<20)}},
	}
	for _, base := range []int{math.MinInt, -1} {
		l = append(l, odd{fmt.Sprint("a Base of ", base), api.Seg{Base: base}}, odd{fmt.Sprint("a Base of ", base, ", and batches"), segOf(base, two)})
	}
	for _, base := range []int{top + 1, math.MaxInt} {
		l = append(l, odd{fmt.Sprint("a Base of ", base), api.Seg{Base: base}}, odd{fmt.Sprint("a Base of ", base, ", and a batch"), segOf(base, []api.Batch{stamped(top, 3)})})
	}
	return l
}

// roomy is a segment with bytes of its own, and room behind them that holds a whole batch and much else: who reads on into it, or writes there, is seen.
func roomy(s api.Seg) api.Seg {
	end := min(max(seg.End(s), 0), top)
	x := slices.Concat(s.Bytes, bytesOf(stamped(end, top)), bytes.Repeat([]byte{99}, 100))
	return api.Seg{Base: s.Base, Bytes: x[:len(s.Bytes)]}
}

// room is entries in a list of their own, with room behind it that holds one that is as it is looked for.
func room(l []api.Ent) []api.Ent {
	return append(slices.Clone(l), api.Ent{Off: math.MinInt, Pos: 77, Stamp: math.MinInt}, api.Ent{Pos: 78})[:len(l)]
}

// stays hands roomy copies of a segment and of entries on, and fails, unless these are as they were behind the call.
func stays(t *testing.T, name string, s api.Seg, l []api.Ent, call func(s api.Seg, l []api.Ent)) {
	t.Helper()
	x, y := roomy(s), room(l)
	was, wasL := slices.Clone(x.Bytes[:cap(x.Bytes)]), slices.Clone(y[:cap(y)])
	call(x, y)
	if !bytes.Equal(x.Bytes[:cap(x.Bytes)], was) {
		t.Errorf("%s: %s was changed, or the room behind its bytes", name, brief(s))
	}
	if !slices.Equal(y[:cap(y)], wasL) {
		t.Errorf("%s: %s were changed, or the room behind them", name, briefly(l))
	}
}

// The faces, in a form that is held against the words.

func makes(t *testing.T, name string, s api.Seg, every int) api.Errno {
	t.Helper()
	want, e := wordsMake(s, every)
	stays(t, name, s, nil, func(s api.Seg, _ []api.Ent) {
		got, gotE := index.Make(s, every)
		if gotE != e || !slices.Equal(got, want) {
			t.Errorf("%s: Make of %s, every %d, tells %s, %d, want %s, %d", name, brief(s), every, briefly(got), gotE, briefly(want), e)
		}
	})
	return e
}

func checks(t *testing.T, name string, s api.Seg, l []api.Ent) api.Errno {
	t.Helper()
	want := wordsCheck(s, l)
	stays(t, name, s, l, func(s api.Seg, l []api.Ent) {
		if e := index.Check(s, l); e != want {
			t.Errorf("%s: Check of %s in %s tells %d, want %d", name, briefly(l), brief(s), e, want)
		}
	})
	return want
}

func finds(t *testing.T, name string, s api.Seg, l []api.Ent, off int) api.Errno {
	t.Helper()
	want, e := wordsFind(s, l, off)
	stays(t, name, s, l, func(s api.Seg, l []api.Ent) {
		got, gotE := index.Find(s, l, off)
		if gotE != e || !alike(got, want) {
			t.Errorf("%s: Find of %d by %s in %s tells %+v, %d, want %+v, %d", name, off, briefly(l), brief(s), got, gotE, want, e)
		}
	})
	return e
}

func sinces(t *testing.T, name string, s api.Seg, l []api.Ent, stamp int) api.Errno {
	t.Helper()
	want, e := wordsSince(s, l, stamp)
	stays(t, name, s, l, func(s api.Seg, l []api.Ent) {
		got, gotE := index.Since(s, l, stamp)
		if gotE != e || got != want {
			t.Errorf("%s: Since %d by %s in %s tells %d, %d, want %d, %d", name, stamp, briefly(l), brief(s), got, gotE, want, e)
		}
	})
	return e
}

// places holds Floor and When against the words.
func places(t *testing.T, name string, l []api.Ent, n int) {
	t.Helper()
	stays(t, name, api.Seg{}, l, func(_ api.Seg, l []api.Ent) {
		if got, want := index.Floor(l, n), wordsFloor(l, n); got != want {
			t.Errorf("%s: Floor of %d by %s tells %d, want %d", name, n, briefly(l), got, want)
		}
		if got, want := index.When(l, n), wordsWhen(l, n); got != want {
			t.Errorf("%s: When of %d by %s tells %d, want %d", name, n, briefly(l), got, want)
		}
	})
}
