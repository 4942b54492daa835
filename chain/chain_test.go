package chain_test

import (
	"fmt"
	"math"
	"slices"
	"testing"

	"watermeet/api"
	"watermeet/batch"
	"watermeet/chain"
	"watermeet/seg"
)

func TestP9_1Example(t *testing.T) {
	l, e := chain.New(256, 10)
	if e != api.OK || !same(l, logOf(256, 10, segOf(10))) || chain.Check(l) != api.OK || chain.End(l) != 10 || len(chain.All(l)) != 0 {
		t.Fatalf("New tells %s, %d", brief(l), e)
	}
	l, e = chain.Append(l, data(10, 3))
	if e != api.OK || chain.End(l) != 13 || !alike(chain.All(l), []api.Batch{data(10, 3)}) {
		t.Fatalf("Append tells %s, %d", brief(l), e)
	}
	l, e = chain.Truncate(l, 12)
	if e != api.OK || chain.End(l) != 10 || len(chain.All(l)) != 0 {
		t.Errorf("Truncate tells %s, %d", brief(l), e)
	}
}

func TestP9_1NewByLimitAndStart(t *testing.T) {
	for _, limit := range []int{math.MinInt, -256, -1, 0, 1, 255, 256, 257, 1000, 4095, 4096, 4097, 8192, math.MaxInt} {
		for _, start := range []int{math.MinInt, -1, 0, 1, 10, 1 << 20, top - 1, top, top + 1, math.MaxInt} {
			want, e := wordsNew(limit, start)
			got, gotE := chain.New(limit, start)
			holds(t, "New", fmt.Sprint("New of ", limit, " and ", start), api.Log{}, got, want, gotE, e)
			if (e == api.OK) != (limit >= 256 && limit <= 4096 && start >= 0 && start <= 1<<40) {
				t.Errorf("the test's words tell %d of %d and %d", e, limit, start)
			}
			if e == api.OK && (chain.Check(got) != api.OK || chain.End(got) != start || len(chain.All(got)) != 0) {
				t.Errorf("of New of %d and %d Check tells %d, End %d, All %s", limit, start, chain.Check(got), chain.End(got), briefly(chain.All(got)))
			}
		}
	}
}

func TestP9_1LogsThatMayBe(t *testing.T) {
	for _, x := range shapes() {
		if e := wordsCheck(x.l); e != api.OK {
			t.Fatalf("%s: the test's words tell %d", x.name, e)
		}
		checks(t, x.name, x.l)
	}
}

func TestP9_1LogsThatMayNotBe(t *testing.T) {
	told := map[api.Errno]int{}
	for _, x := range odds() {
		if e := checks(t, x.name, x.l); e != x.e || wordsCheck(x.l) != x.e {
			t.Errorf("%s: %s is told %d, by the test's words %d, want %d", x.name, brief(x.l), e, wordsCheck(x.l), x.e)
		}
		if n, all := chain.End(x.l), chain.All(x.l); n != 0 || len(all) != 0 {
			t.Errorf("%s: of what may not be End tells %d, All %s", x.name, n, briefly(all))
		}
		told[x.e]++
	}
	if told[api.ErrArg] < 80 || told[api.ErrBound] < 4 {
		t.Errorf("that looks at too little: %v", told)
	}
}

// Check's error is every call's that has one, whatever else is wrong.
func TestP9_1WhatMayNotBeIsToldByAll(t *testing.T) {
	for _, x := range odds() {
		want := wordsCheck(x.l)
		for _, n := range []int{math.MinInt, -1, 0, 10, 12, 256, top, math.MaxInt} {
			for _, bs := range [][]api.Batch{nil, {{Base: -1}}, {tooLong(10)}, {data(10, 1)}, {data(5000, 1)}} {
				if got, e := chain.Replace(x.l, n, bs); e != want || !same(got, api.Log{}) {
					t.Errorf("%s: Replace of %d tells %s, %d, want %d", x.name, n, brief(got), e, want)
				}
			}
			for _, most := range []int{math.MinInt, -1, 0, math.MaxInt} {
				if got, e := chain.Read(x.l, n, most); e != want || len(got) != 0 {
					t.Errorf("%s: Read of %d, %d tells %s, %d, want %d", x.name, n, most, briefly(got), e, want)
				}
			}
			if got, e := chain.Truncate(x.l, n); e != want || !same(got, api.Log{}) {
				t.Errorf("%s: Truncate to %d tells %s, %d, want %d", x.name, n, brief(got), e, want)
			}
			if got, e := chain.Trim(x.l, n); e != want || !same(got, api.Log{}) {
				t.Errorf("%s: Trim to %d tells %s, %d, want %d", x.name, n, brief(got), e, want)
			}
		}
		for _, b := range []api.Batch{{Base: -1}, tooLong(10), tooLong(9000), data(0, 1), data(9000, 1), sized(9000, 2048)} {
			if got, e := chain.Append(x.l, b); e != want || !same(got, api.Log{}) {
				t.Errorf("%s: Append tells %s, %d, want %d", x.name, brief(got), e, want)
			}
		}
	}
}

func TestP9_1CheckByLimitAndStart(t *testing.T) {
	short := []api.Seg{segOf(10, data(10, 3)), segOf(13)}
	for _, limit := range []int{math.MinInt, -1, 0, 255, 256, 257, 4095, 4096, 4097, math.MaxInt} {
		for _, start := range []int{math.MinInt, -1, 0, 9, 10, 12, 13, 14, top - 1, top, top + 1, math.MaxInt} {
			for _, segs := range [][]api.Seg{nil, {}, short[:1], short, {segOf(0)}} {
				want := api.OK
				if limit < 256 || limit > 4096 || start < 0 || start > 1<<40 || len(segs) == 0 {
					want = api.ErrArg
				}
				if e := checks(t, "by Limit and Start", logOf(limit, start, segs...)); e != want {
					t.Errorf("%s is told %d, want %d", brief(logOf(limit, start, segs...)), e, want)
				}
			}
		}
	}
}

func TestP9_1CheckByBytes(t *testing.T) {
	for _, limit := range []int{256, 257, 300, 1000, 2048} {
		for _, many := range []int{limit - 1, limit, limit + 1} {
			if many > 2048 {
				continue
			}
			want := api.OK
			if many > limit {
				want = api.ErrArg
			}
			for n := range 3 {
				segs := []api.Seg{segOf(0, data(0, 2)), segOf(30, data(30, 2)), segOf(60, data(60, 2))}
				segs[n] = segOf(30*n, sized(30*n, many))
				if e := checks(t, "by bytes", logOf(limit, 0, segs...)); e != want {
					t.Errorf("%d bytes of %d: got %d, want %d", many, limit, e, want)
				}
			}
		}
	}
	for many, want := range map[int]api.Errno{4095: api.OK, 4096: api.OK, 4097: api.ErrArg} {
		s := segOf(0, sized(0, 2048), sized(16, 1000), sized(40, many-3048))
		if e := checks(t, "by bytes", logOf(4096, 0, s, segOf(100))); e != want {
			t.Errorf("%d bytes of 4096: got %d, want %d", many, e, want)
		}
		if e := checks(t, "by bytes", logOf(4096, 0, s)); e != want {
			t.Errorf("%d bytes of 4096, alone: got %d, want %d", many, e, want)
		}
		if e := checks(t, "by bytes", logOf(4095, 0, s)); (e == api.OK) != (many == 4095) {
			t.Errorf("%d bytes of 4095: got %d", many, e)
		}
	}
}

// What a Base may be hangs on the Base of the one ahead, and on its end, and not on what is ahead of that.
func TestP9_1CheckByBases(t *testing.T) {
	told := map[api.Errno]int{}
	for _, many := range []int{0, 1, 3} {
		for first := range 6 {
			for second := range 12 {
				for third := range 12 {
					var ahead []api.Batch
					if many > 0 {
						ahead = []api.Batch{data(first+1, many)}
					}
					end := first
					if many > 0 {
						end = first + 1 + many
					}
					want := api.OK
					if second <= first || second < end || third <= second {
						want = api.ErrArg
					}
					l := logOf(256, 3, segOf(first, ahead...), segOf(second), segOf(third, cleaned(third, 2)))
					if e := checks(t, "by Bases", l); e != want {
						t.Errorf("%s is told %d, want %d", brief(l), e, want)
					}
					told[want]++
				}
			}
		}
	}
	if told[api.OK] < 100 || told[api.ErrArg] < 100 {
		t.Errorf("that looks at too little: %v", told)
	}
}

func TestP9_1CheckByHowManySegments(t *testing.T) {
	for many, want := range map[int]api.Errno{0: api.ErrArg, 1: api.OK, 2: api.OK, 255: api.OK, 256: api.OK, 257: api.ErrBound, 258: api.ErrBound, 600: api.ErrBound} {
		for _, segs := range [][]api.Seg{empty(many), single(many)} {
			if e := checks(t, fmt.Sprint(many, " segments"), logOf(256, 5, segs...)); e != want {
				t.Errorf("%d segments: got %d, want %d", many, e, want)
			}
		}
	}
	if e := chain.Check(logOf(256, 0, empty(1<<20)...)); e != api.ErrBound {
		t.Errorf("very many: got %d", e)
	}
	if e := chain.Check(logOf(256, 0, make([]api.Seg, 1<<20)...)); e != api.ErrArg {
		t.Errorf("very many of the same Base: got %d", e)
	}
}

func TestP9_1EndAndAllByHand(t *testing.T) {
	all := []api.Batch{data(10, 3), mark(13, api.Commit), cleaned(14, 2), data(17, 2), data(20, 2)}
	for _, x := range []struct{ start, end, gone int }{
		{0, 22, 0}, {9, 22, 0}, {10, 22, 0}, {11, 22, 0}, {12, 22, 0}, {13, 22, 1}, {14, 22, 2}, {15, 22, 2}, {16, 22, 3}, {17, 22, 3},
		{18, 22, 3}, {19, 22, 4}, {20, 22, 4}, {21, 22, 4}, {22, 22, 5}, {23, 23, 5}, {1000, 1000, 5}, {top, top, 5},
	} {
		l := logOf(256, x.start, triple()...)
		if n, got := chain.End(l), chain.All(l); n != x.end || !alike(got, all[x.gone:]) {
			t.Errorf("Start %d: End tells %d, All %s, want %d and all but %d", x.start, n, briefly(got), x.end, x.gone)
		}
	}
	for _, x := range []struct {
		l   api.Log
		end int
	}{
		{logOf(256, 5, segOf(9)), 9},
		{logOf(256, 5, segOf(1, data(2, 3)), segOf(90)), 90},
		{logOf(256, 5, segOf(1, data(2, 3)), segOf(5)), 5},
		{logOf(256, 6, segOf(1, data(2, 3)), segOf(5)), 6},
		{logOf(256, 0, segOf(0, data(top, 1))), top + 1},
		{logOf(256, top, segOf(0, data(top, 1))), top + 1},
		{logOf(256, top, segOf(0, data(top-1, 1))), top},
	} {
		if n := chain.End(x.l); n != x.end {
			t.Errorf("End of %s tells %d, want %d", brief(x.l), n, x.end)
		}
	}
}

func TestP9_2AppendToAnyLog(t *testing.T) {
	told := map[api.Errno]int{}
	for _, x := range shapes() {
		end := wordsEnd(x.l)
		for _, base := range []int{0, 9, 10, x.l.Start - 1, x.l.Start, end - 17, end - 2, end - 1, end, end + 1, end + 100, top - 15, top} {
			if base < 0 || base > top {
				continue
			}
			l := []api.Batch{cleaned(base, 1), mark(base, api.Abort), cleaned(base, min(16, top-base+1)), sized(base, 100)}
			if base < top-15 {
				l = append(l, data(base, 16), written(base), sized(base, 256), sized(base, 257), sized(base, 2048), tooLong(base))
			}
			for _, b := range l {
				_, e := appends(t, x.name, x.l, b)
				if (e == api.OK) != (base >= end && batch.Size(b) > 0 && batch.Size(b) <= x.l.Limit && (len(x.l.Segs) < 256 || len(x.l.Segs[255].Bytes)+batch.Size(b) <= x.l.Limit)) {
					t.Errorf("%s: base %d behind %d is told %d", x.name, base, end, e)
				}
				told[e]++
			}
		}
	}
	for _, e := range []api.Errno{api.OK, api.ErrBound, api.ErrOrder, api.ErrRoom} {
		if told[e] < 30 {
			t.Errorf("that looks at too little of error %d: %v", e, told)
		}
	}
}

// A batch goes behind all in the last segment as long as that has at most Limit bytes then; with one more it goes into a new one.
func TestP9_2AppendByRoom(t *testing.T) {
	for _, limit := range []int{256, 300, 2048, 4096} {
		for _, ahead := range []int{0, 40, 100, 200} {
			for _, by := range []int{-1, 0, 1} {
				size := limit - ahead + by
				if size > min(limit, 2048) {
					continue
				}
				last := api.Seg{Base: 20}
				if ahead > 0 {
					last = segOf(20, sized(20, ahead))
				}
				l := logOf(limit, 10, segOf(10, data(10, 3)), last)
				b := sized(50, size)
				got, e := appends(t, "by room", l, b)
				want := logOf(limit, 10, l.Segs[0], api.Seg{Base: 20, Bytes: slices.Concat(last.Bytes, bytesOf(b))})
				if by > 0 {
					want = logOf(limit, 10, l.Segs[0], last, segOf(50, b))
				}
				if e != api.OK || !same(got, want) {
					t.Errorf("limit %d, %d bytes ahead, %d more: got %s, %d, want %s", limit, ahead, size, brief(got), e, brief(want))
				}
			}
		}
	}
}

func TestP9_2AppendBySize(t *testing.T) {
	for _, limit := range []int{256, 257, 300, 1000, 2047, 2048} {
		for size, want := range map[int]api.Errno{limit - 1: api.OK, limit: api.OK, limit + 1: api.ErrRoom} {
			if size > 2048 {
				continue
			}
			for _, l := range []api.Log{logOf(limit, 10, segOf(10)), logOf(limit, 10, segOf(10, data(10, 3))), logOf(limit, 10, triple()...)} {
				if got, e := appends(t, "by size", l, sized(50, size)); e != want || e == api.OK && chain.End(got) <= 50 {
					t.Errorf("%d bytes of %d: got %s, %d, want %d", size, limit, brief(got), e, want)
				}
			}
		}
	}
}

func TestP9_2AppendByBase(t *testing.T) {
	for _, x := range []struct {
		name string
		l    api.Log
		end  int
	}{
		{"a segment's end", logOf(256, 10, triple()...), 22},
		{"Start", logOf(256, 30, triple()...), 30},
		{"a Base without bytes", logOf(256, 10, append(triple(), segOf(40))...), 40},
		{"a Start alone", logOf(256, 30, segOf(10)), 30},
		{"a Base alone", logOf(256, 5, segOf(10)), 10},
	} {
		for base := range 50 {
			want := api.OK
			if base < x.end {
				want = api.ErrOrder
			}
			for _, b := range []api.Batch{data(base, 1), cleaned(base, 16), mark(base, api.Commit)} {
				got, e := appends(t, x.name, x.l, b)
				if e != want || e == api.OK && chain.End(got) != b.Last+1 {
					t.Errorf("%s, base %d: got %s, %d, want %d", x.name, base, brief(got), e, want)
				}
			}
		}
	}
}

func TestP9_2AppendOfThe257thSegment(t *testing.T) {
	for many, want := range map[int]api.Errno{255: api.OK, 256: api.ErrBound} {
		segs := single(many)
		free := 256 - len(segs[many-1].Bytes)
		l := logOf(256, 10, segs...)
		if got, e := appends(t, "room in the last one", l, sized(5000, free)); e != api.OK || len(got.Segs) != many {
			t.Errorf("%d segments, and room: got %s, %d", many, brief(got), e)
		}
		if got, e := appends(t, "one byte too many", l, sized(5000, free+1)); e != want || e == api.OK && len(got.Segs) != many+1 {
			t.Errorf("%d segments, and no room: got %s, %d, want %d", many, brief(got), e, want)
		}
	}
}

func TestP9_2AppendFirstErrorByHand(t *testing.T) {
	formless := api.Batch{Base: 3, Last: 2, Pid: -1}
	whole, full := logOf(256, 10, triple()...), logOf(256, 10, single(256)...)
	torn, many := with(whole, 1, api.Seg{Base: 14, Bytes: []byte{0}}), logOf(256, 10, single(257)...)
	for _, x := range []struct {
		name string
		l    api.Log
		b    api.Batch
		e    api.Errno
	}{
		{"all is well", whole, data(22, 2), api.OK},
		{"a log that may not be, and without form", torn, formless, api.ErrArg},
		{"a log that may not be, and too long", torn, tooLong(22), api.ErrArg},
		{"a log that may not be, and below the end", torn, data(10, 1), api.ErrArg},
		{"a log that may not be, and too large", torn, sized(22, 257), api.ErrArg},
		{"257 segments, and without form", many, formless, api.ErrBound},
		{"257 segments, and below the end", many, data(10, 1), api.ErrBound},
		{"257 segments, and too large", many, sized(9000, 257), api.ErrBound},
		{"without form, and below the end", whole, formless, api.ErrArg},
		{"without form", whole, api.Batch{Base: 22, Last: 21, Pid: -1}, api.ErrArg},
		{"without form, and the 257th", full, api.Batch{Base: 9000, Last: 8999, Pid: -1}, api.ErrArg},
		{"a Base below 0", whole, api.Batch{Base: -1, Last: -1, Pid: -1}, api.ErrArg},
		{"a Base above the top", whole, api.Batch{Base: top + 1, Last: top + 1, Pid: -1}, api.ErrArg},
		{"the least Base there is", whole, api.Batch{Base: math.MinInt, Last: math.MinInt}, api.ErrArg},
		{"a record that may not be", whole, api.Batch{Base: 22, Last: 22, Pid: -1, Recs: []api.Rec{{Off: 22, Dead: true}}}, api.ErrArg},
		{"too long", whole, tooLong(22), api.ErrBound},
		{"too long, and below the end", whole, tooLong(0), api.ErrBound},
		{"below the end", whole, data(21, 2), api.ErrOrder},
		{"below the end, and too large", whole, sized(21, 257), api.ErrOrder},
		{"below the end, and the 257th", full, sized(21, 250), api.ErrOrder},
		{"too large", whole, sized(22, 257), api.ErrRoom},
		{"too large, and the 257th", full, sized(9000, 257), api.ErrRoom},
		{"the 257th", full, sized(9000, 256), api.ErrBound},
	} {
		if _, e := appends(t, x.name, x.l, x.b); e != x.e {
			t.Errorf("%s: got %d, want %d", x.name, e, x.e)
		}
	}
}

// Two batches that are put behind the same log do not touch each other.
func TestP9_2LogsThatBeginAlikeAreApart(t *testing.T) {
	for _, x := range shapes() {
		end := wordsEnd(x.l)
		if end > top || len(x.l.Segs) == 256 {
			continue
		}
		begun := roomy(x.l)
		one, e := chain.Append(begun, mark(end, api.Commit))
		two, f := chain.Append(begun, mark(end, api.Abort))
		want, _ := wordsAppend(x.l, mark(end, api.Commit))
		wantTwo, _ := wordsAppend(x.l, mark(end, api.Abort))
		if e != api.OK || f != api.OK || !same(one, want) || !same(two, wantTwo) {
			t.Errorf("%s: got %s, %d, and %s, %d", x.name, brief(one), e, brief(two), f)
		}
	}
}

// mosts are numbers of bytes about what batches have, from that offset on.
func mosts(l api.Log, from int) []int {
	x := []int{math.MinInt, -1, 0, 1, 255, 256, 4096, 1 << 20, math.MaxInt}
	n := 0
	for _, b := range wordsAll(l) {
		if b.Last < from {
			continue
		}
		n += batch.Size(b)
		if x = append(x, n-1, n, n+1); len(x) > 60 {
			break
		}
	}
	slices.Sort(x)
	return slices.Compact(x)
}

func TestP9_3Read(t *testing.T) {
	told := map[api.Errno]int{}
	for _, x := range shapes() {
		offs, many := offsAbout(x.l), 30
		if len(x.l.Segs) > 8 {
			offs, many = some(offs, 12), 10
		}
		for _, from := range offs {
			for _, most := range some(mosts(x.l, from), many) {
				_, e := reads(t, x.name, x.l, from, most)
				told[e]++
			}
		}
	}
	for _, e := range []api.Errno{api.OK, api.ErrArg, api.ErrRange} {
		if told[e] < 500 {
			t.Errorf("that looks at too little of error %d: %v", e, told)
		}
	}
}

func TestP9_3ReadByOffset(t *testing.T) {
	all := []api.Batch{data(10, 3), mark(13, api.Commit), cleaned(14, 2), data(17, 2), data(20, 2)}
	for _, start := range []int{8, 10, 11, 13, 15, 16} {
		l := logOf(256, start, triple()...)
		for from, gone := range map[int]int{8: 0, 9: 0, 10: 0, 11: 0, 12: 0, 13: 1, 14: 2, 15: 2, 16: 3, 17: 3, 18: 3, 19: 4, 20: 4, 21: 4, 22: 5} {
			want, e := all[gone:], api.OK
			if from < start {
				want, e = nil, api.ErrRange
			}
			if got, f := chain.Read(l, from, math.MaxInt); !alike(got, want) || f != e {
				t.Errorf("Start %d, from %d: got %s, %d, want %s, %d", start, from, briefly(got), f, briefly(want), e)
			}
			if got, f := chain.Read(l, from, 0); !alike(got, want[:min(1, len(want))]) || f != e {
				t.Errorf("Start %d, from %d, no bytes: got %s, %d, want the first of %s, %d", start, from, briefly(got), f, briefly(want), e)
			}
		}
		for _, from := range []int{math.MinInt, -1, 0, start - 1, 23, 24, top, top + 1, math.MaxInt} {
			if got, e := chain.Read(l, from, 1000); e != api.ErrRange || len(got) != 0 {
				t.Errorf("Start %d, from %d: got %s, %d", start, from, briefly(got), e)
			}
		}
	}
}

func TestP9_3ReadByMost(t *testing.T) {
	a, b, c, d := sized(10, 100), sized(15, 120), sized(20, 200), sized(40, 31)
	l := logOf(256, 10, segOf(10, a, b), segOf(20, c, d))
	for _, x := range []struct{ from, most, first, many int }{
		{10, 0, 0, 1}, {10, 1, 0, 1}, {10, 99, 0, 1}, {10, 100, 0, 1}, {10, 101, 0, 1}, {10, 219, 0, 1}, {10, 220, 0, 2}, {10, 221, 0, 2},
		// What would have room behind one that has none is not told.
		{10, 251, 0, 2}, {10, 419, 0, 2}, {10, 420, 0, 3}, {10, 450, 0, 3}, {10, 451, 0, 4}, {10, 452, 0, 4}, {10, 1 << 40, 0, 4}, {10, math.MaxInt, 0, 4},
		{15, 119, 1, 1}, {15, 120, 1, 1}, {15, 151, 1, 1}, {15, 319, 1, 1}, {15, 320, 1, 2}, {15, 350, 1, 2}, {15, 351, 1, 3},
		{20, 0, 2, 1}, {20, 230, 2, 1}, {20, 231, 2, 2}, {30, 0, 3, 1}, {40, 30, 3, 1}, {40, 31, 3, 1}, {41, 0, 4, 0}, {41, math.MaxInt, 4, 0},
	} {
		if got, e := chain.Read(l, x.from, x.most); e != api.OK || !alike(got, []api.Batch{a, b, c, d}[x.first:x.first+x.many]) {
			t.Errorf("from %d, most %d: got %s, %d", x.from, x.most, briefly(got), e)
		}
	}
}

func TestP9_3ReadFirstErrorByHand(t *testing.T) {
	whole := logOf(256, 10, triple()...)
	torn := with(whole, 2, api.Seg{Base: 20, Bytes: []byte{0}})
	for _, x := range []struct {
		name       string
		l          api.Log
		from, most int
		e          api.Errno
	}{
		{"all is well", whole, 10, 0, api.OK},
		{"most below 0", whole, 10, -1, api.ErrArg},
		{"most as low as may be", whole, 10, math.MinInt, api.ErrArg},
		{"most below 0, and from below Start", whole, 9, -1, api.ErrArg},
		{"most below 0, and from above the end", whole, 23, -1, api.ErrArg},
		{"from below Start", whole, 9, 0, api.ErrRange},
		{"from at the end", whole, 22, 0, api.OK},
		{"from above the end", whole, 23, 0, api.ErrRange},
		{"a log that may not be, and most below 0", torn, 10, -1, api.ErrArg},
		{"a log that may not be, and from below Start", torn, 9, 5, api.ErrArg},
		{"257 segments, and most below 0", logOf(256, 10, single(257)...), 10, -1, api.ErrBound},
		{"257 segments, and from below Start", logOf(256, 10, single(257)...), 0, 0, api.ErrBound},
		{"the end is behind the top", logOf(256, 10, segOf(10, mark(top, api.Abort))), top + 1, 0, api.OK},
		{"above an end that is behind the top", logOf(256, 10, segOf(10, mark(top, api.Abort))), top + 2, 0, api.ErrRange},
	} {
		if _, e := reads(t, x.name, x.l, x.from, x.most); e != x.e {
			t.Errorf("%s: got %d, want %d", x.name, e, x.e)
		}
	}
}

// What was told stays as it is when the bytes that it was read from do not, and none of its lists hangs on another one.
func TestP9_3BatchesThatAreToldAreNew(t *testing.T) {
	for _, x := range small() {
		want := wordsAll(x.l)
		l := roomy(x.l)
		one, two := chain.All(l), chain.All(l)
		three, _ := chain.Read(l, l.Start, math.MaxInt)
		four, _ := chain.Read(l, l.Start, math.MaxInt)
		scribble(l)
		lists := [][]api.Batch{one, two, three, four}
		for i, got := range lists {
			if !alike(got, want) {
				t.Errorf("%s: once the bytes are others, %s is told, want %s", x.name, briefly(got), briefly(want))
			}
			for k := range got {
				clear(got[k].Recs[:cap(got[k].Recs)])
				if !alike(got[k+1:], want[k+1:]) {
					t.Errorf("%s: a batch changes with batch %d", x.name, k)
				}
			}
			clear(got[:cap(got)])
			for _, other := range lists[i+1:] {
				if !alike(other, want) {
					t.Errorf("%s: what was told changes with what was told again", x.name)
				}
			}
		}
	}
}

// The layer below holds what is told as this test does.
func TestP9_3WhatIsToldIsTheSameToTheLayerBelow(t *testing.T) {
	for _, x := range small() {
		var l []api.Batch
		for _, s := range x.l.Segs {
			all, _ := seg.Scan(s)
			l = append(l, all...)
		}
		l = slices.DeleteFunc(l, func(b api.Batch) bool { return b.Last < x.l.Start })
		if got := chain.All(x.l); !slices.EqualFunc(got, l, batch.Same) {
			t.Errorf("%s: got %s, want %s", x.name, briefly(got), briefly(l))
		}
	}
}
