package seg_test

import (
	"bytes"
	"fmt"
	"math"
	"math/rand"
	"slices"
	"testing"

	"watermeet/api"
	"watermeet/batch"
	"watermeet/seg"
)

// tells fails, unless Scan, End and Fix tell that of a segment, and leave it as it was.
func tells(t *testing.T, name string, s api.Seg, l []api.Batch, good int) {
	t.Helper()
	stays(t, name, s, func(s api.Seg) {
		got, n := seg.Scan(s)
		if !alike(got, l) || n != good {
			t.Errorf("%s: Scan of %s tells %s, %d bytes, want %s, %d", name, brief(s), briefly(got), n, briefly(l), good)
		}
		end := s.Base
		if len(l) > 0 {
			end = l[len(l)-1].Last + 1
		}
		if n := seg.End(s); n != end {
			t.Errorf("%s: End of %s tells %d, want %d", name, brief(s), n, end)
		}
		want := api.Seg{Base: s.Base, Bytes: s.Bytes[:good]}
		if x, lost := seg.Fix(s); !same(x, want) || lost != len(s.Bytes)-good {
			t.Errorf("%s: Fix of %s tells %s, %d lost, want %s, %d", name, brief(s), brief(x), lost, brief(want), len(s.Bytes)-good)
		}
	})
}

func TestP7_1ScanEndFixOfWholeOnes(t *testing.T) {
	for _, x := range shapes() {
		tells(t, x.name, x.seg(), x.l, len(bytesOf(x.l...)))
	}
	if n := seg.End(api.Seg{Base: 5}); n != 5 {
		t.Errorf("the chapter's example: End tells %d", n)
	}
	if n := seg.End(segOf(top, []api.Batch{data(top, 1)})); n != top+1 {
		t.Errorf("behind the top: End tells %d", n)
	}
}

func TestP7_1ScanEndFixOfOthers(t *testing.T) {
	for _, x := range odds() {
		tells(t, x.name, x.seg(), x.l[:x.told], len(bytesOf(x.l[:x.told]...)))
	}
}

// Bytes of any kind behind those that are whole are lost, and counted, however many there are.
func TestP7_1FixOfSomethingBehind(t *testing.T) {
	follows := bytesOf(data(200, 3))
	for _, x := range shapes() {
		if x.base > 200 || len(x.l) > 50 {
			continue
		}
		whole := x.seg()
		for n := range follows {
			s := api.Seg{Base: x.base, Bytes: slices.Concat(whole.Bytes, follows[:n])}
			tells(t, fmt.Sprint(x.name, ", and ", n, " bytes behind"), s, x.l, len(whole.Bytes))
		}
	}
	l, good := seg.Scan(api.Seg{Base: 5, Bytes: make([]byte, 1<<20)})
	if x, lost := seg.Fix(api.Seg{Base: 5, Bytes: make([]byte, 1<<20)}); len(l) != 0 || good != 0 || len(x.Bytes) != 0 || x.Base != 5 || lost != 1<<20 {
		t.Errorf("very many bytes: got %s, %d, %s, %d", briefly(l), good, brief(x), lost)
	}
}

// What a batch's Base may be hangs on the segment's Base, and on Last of the one ahead.
func TestP7_1ScanByBases(t *testing.T) {
	told := map[int]int{}
	for base := 0; base <= 6; base++ {
		for first := 0; first <= 6; first++ {
			for _, size := range []int{1, 2, 3} {
				for second := 0; second <= 10; second++ {
					n := 0
					if first >= base {
						n = 1
						if second >= first+size {
							n = 2
						}
					}
					l := []api.Batch{data(first, size), cleaned(second, 1)}
					tells(t, fmt.Sprint(base, first, size, second), segOf(base, l), l[:n], len(bytesOf(l[:n]...)))
					told[n]++
				}
			}
		}
	}
	if told[0] < 100 || told[1] < 100 || told[2] < 100 {
		t.Errorf("that looks at too little: %v", told)
	}
}

func TestP7_2New(t *testing.T) {
	for _, base := range []int{0, 1, 5, 1 << 20, 1<<32 + 1, top - 1, top} {
		if s, e := seg.New(base); s.Base != base || len(s.Bytes) != 0 || e != api.OK || seg.End(s) != base {
			t.Errorf("%d: got %s, %d", base, brief(s), e)
		}
	}
	for _, base := range []int{-1, -2, math.MinInt, top + 1, top + 2, 1 << 41, math.MaxInt} {
		if s, e := seg.New(base); !nothing(s) || e != api.ErrArg {
			t.Errorf("%d: got %s, %d", base, brief(s), e)
		}
	}
}

// limits are those that are about what a segment has, and those at the edges of what a limit may be.
func limits(sizes ...int) []int {
	l := []int{math.MinInt, -4096, -1, 0, 1, 2, topSize - 1, topSize, topSize + 1, 2 * topSize, math.MaxInt}
	for _, n := range sizes {
		l = append(l, n-1, n, n+1)
	}
	return l
}

func TestP7_2AppendPutsABatchBehind(t *testing.T) {
	for _, x := range shapes() {
		s := api.Seg{Base: x.base}
		for i, b := range x.l {
			want := segOf(x.base, x.l[:i+1])
			stays(t, x.name, s, func(s api.Seg) {
				got, e := seg.Append(s, b, topSize)
				if e != api.OK || !same(got, want) {
					t.Errorf("%s: batch %d: got %s, %d, want %s", x.name, i, brief(got), e, brief(want))
				}
			})
			s = want
		}
	}
}

func TestP7_2AppendByBase(t *testing.T) {
	for _, x := range shapes() {
		s := x.seg()
		end := wordsEnd(s)
		for _, base := range []int{0, x.base - 1, x.base, end - 17, end - 2, end - 1, end, end + 1, end + 100, top} {
			if base < 0 || base > top {
				continue
			}
			for _, b := range []api.Batch{cleaned(base, min(16, top-base+1)), cleaned(base, 1), mark(base, api.Commit)} {
				want := api.OK
				switch {
				case base < end:
					want = api.ErrOrder
				case len(s.Bytes)+len(bytesOf(b)) > topSize:
					want = api.ErrRoom
				}
				if e := appends(t, x.name, s, b, topSize); e != want {
					t.Fatalf("the test's words tell %d of base %d behind %d, want %d", e, base, end, want)
				}
			}
		}
	}
}

func TestP7_2AppendByLimit(t *testing.T) {
	for _, x := range shapes() {
		s := x.seg()
		base := wordsEnd(s)
		if base > top {
			continue
		}
		for _, b := range []api.Batch{cleaned(base, 1), mark(base, api.Abort), data(base, min(9, top-base+1))} {
			all := len(s.Bytes) + len(bytesOf(b))
			for _, limit := range limits(len(s.Bytes), len(bytesOf(b)), all) {
				want := api.OK
				switch {
				case limit < 1 || limit > topSize:
					want = api.ErrArg
				case all > limit:
					want = api.ErrRoom
				}
				if e := appends(t, x.name, s, b, limit); e != want {
					t.Fatalf("the test's words tell %d of %d bytes, limit %d, want %d", e, all, limit, want)
				}
			}
		}
	}
	nearly := segOf(0, []api.Batch{sized(0, 2048), cleaned(16, 1)})
	rest := topSize - len(nearly.Bytes)
	for size, want := range map[int]api.Errno{rest - 1: api.OK, rest: api.OK, rest + 1: api.ErrRoom} {
		if e := appends(t, "up to as many bytes as may be, and one more", nearly, sized(17, size), topSize); e != want {
			t.Errorf("%d: the test's words tell %d", size, e)
		}
	}
}

// wrongs are batches of which a thing is wrong, or none, behind what ends at that offset.
func wrongs(end int) []api.Batch {
	l := []api.Batch{
		{Base: end, Last: end - 1, Pid: -1},
		{Base: end, Last: end + 16, Pid: -1},
		{Base: -1, Last: -1, Pid: -1},
		{Base: top + 1, Last: top + 1, Pid: -1},
		{Base: math.MinInt, Last: math.MinInt},
		{Base: math.MaxInt, Last: math.MaxInt},
		{Base: end, Last: end, Pid: -2},
		{Base: end, Last: end, Pid: 1, Ctl: api.Commit},
		{Base: end, Last: end, Pid: -1, Recs: []api.Rec{{Off: end + 1}}},
		{Base: 0, Last: 0, Pid: -1, Recs: []api.Rec{{Dead: true}}},
		tooLong(0),
		tooLong(min(end, top-15)),
		cleaned(0, 1),
		mark(0, api.Abort),
	}
	if end <= top {
		l = append(l, cleaned(end, 1), mark(end, api.Commit))
	}
	if end <= top-15 {
		l = append(l, sized(end, 2048), data(end, 16))
	}
	if end > 0 {
		l = append(l, cleaned(end-1, 1))
	}
	return l
}

// Of each segment, batch and limit the first thing that is wrong is told, and nothing else is.
func TestP7_2AppendErrors(t *testing.T) {
	told := map[api.Errno]int{}
	for name, s := range anySegs() {
		end := min(max(wordsEnd(s), 0), top+1)
		for _, b := range wrongs(end) {
			for _, limit := range limits(len(s.Bytes), len(s.Bytes)+17) {
				told[appends(t, name, s, b, limit)]++
			}
		}
	}
	for _, e := range []api.Errno{api.OK, api.ErrArg, api.ErrBound, api.ErrOrder, api.ErrRoom} {
		if told[e] < 100 {
			t.Errorf("that looks at too little of error %d: %v", e, told)
		}
	}
}

func TestP7_2AppendFirstErrorByHand(t *testing.T) {
	whole, torn, low := segOf(5, []api.Batch{data(5, 3)}), segOf(5, []api.Batch{data(5, 3)}, 0), segOf(6, []api.Batch{data(5, 3)})
	formless := api.Batch{Base: 3, Last: 2, Pid: -1}
	for _, x := range []struct {
		name  string
		s     api.Seg
		b     api.Batch
		limit int
		e     api.Errno
	}{
		{"all is well", whole, data(8, 1), topSize, api.OK},
		{"as many bytes as limit", whole, data(8, 1), len(whole.Bytes) + len(bytesOf(data(8, 1))), api.OK},
		{"one more than limit", whole, data(8, 1), len(whole.Bytes) + len(bytesOf(data(8, 1))) - 1, api.ErrRoom},
		{"bytes behind the batches", torn, data(8, 1), topSize, api.ErrArg},
		{"a batch below Base", low, data(8, 1), topSize, api.ErrArg},
		{"Base below 0", api.Seg{Base: -1}, data(8, 1), topSize, api.ErrArg},
		{"Base above the top", api.Seg{Base: top + 1}, data(top, 1), topSize, api.ErrArg},
		{"limit 0", whole, data(8, 1), 0, api.ErrArg},
		{"limit 1", whole, data(8, 1), 1, api.ErrRoom},
		{"limit 4097", whole, data(8, 1), 4097, api.ErrArg},
		{"a batch without form", whole, formless, topSize, api.ErrArg},
		{"too long", whole, tooLong(8), topSize, api.ErrBound},
		{"a segment that is not whole, and too long", torn, tooLong(8), topSize, api.ErrArg},
		{"a limit that may not be, and too long", whole, tooLong(8), 4097, api.ErrArg},
		{"a segment that is not whole, and below its end", torn, data(7, 1), topSize, api.ErrArg},
		{"a limit that may not be, and below the end", whole, data(7, 1), 0, api.ErrArg},
		{"without form, and below the end", whole, formless, topSize, api.ErrArg},
		{"too long, and below the end", whole, tooLong(5), topSize, api.ErrBound},
		{"without form, and no room", whole, api.Batch{Base: 8, Last: 7, Pid: -1}, 1, api.ErrArg},
		{"too long, and no room", whole, tooLong(8), 1, api.ErrBound},
		{"below the end, and no room", whole, data(7, 1), 1, api.ErrOrder},
		{"no room, though the segment has more than limit already", whole, data(8, 1), len(whole.Bytes) - 1, api.ErrRoom},
	} {
		if e := appends(t, x.name, x.s, x.b, x.limit); e != x.e {
			t.Errorf("%s: the test's words tell %d, want %d", x.name, e, x.e)
		}
	}
}

func TestP7_2Of(t *testing.T) {
	for _, x := range shapes() {
		want := x.seg()
		batchesStay(t, x.name, x.l, func(l []api.Batch) {
			for _, limit := range []int{topSize, max(1, len(want.Bytes))} {
				if s, e := seg.Of(x.base, l, limit); e != api.OK || !same(s, want) {
					t.Errorf("%s: got %s, %d, want %s", x.name, brief(s), e, brief(want))
				}
			}
		})
		for _, limit := range limits(len(want.Bytes)) {
			makes(t, x.name, x.base, x.l, limit)
		}
		for _, base := range []int{math.MinInt, -1, 0, x.base - 1, x.base + 1, top, top + 1, math.MaxInt} {
			makes(t, x.name, base, x.l, topSize)
		}
	}
	for _, base := range []int{math.MinInt, -1, 0, 5, top, top + 1, math.MaxInt} {
		for _, l := range [][]api.Batch{nil, {}} {
			for _, limit := range limits() {
				want := api.OK
				if base < 0 || base > top || limit < 1 || limit > topSize {
					want = api.ErrArg
				}
				if e := makes(t, "no batches", base, l, limit); e != want {
					t.Errorf("no batches: the test's words tell %d of %d, limit %d", e, base, limit)
				}
			}
		}
	}
}

// The first error is that of the first batch that is refused, whatever those behind it are.
func TestP7_2OfErrors(t *testing.T) {
	first := []api.Batch{data(5, 3), mark(8, api.Commit), written(9)}
	told := map[api.Errno]int{}
	for n := range len(first) + 1 {
		ahead := first[:n]
		end := wordsEnd(segOf(5, ahead))
		for _, one := range wrongs(end) {
			for _, two := range wrongs(end + 20) {
				for _, limit := range []int{0, 1, len(bytesOf(ahead...)), len(bytesOf(ahead...)) + 40, topSize, topSize + 1} {
					l := append(slices.Clone(ahead), one, two)
					told[makes(t, fmt.Sprint(n, " batches, and two"), 5, l, limit)]++
					told[makes(t, fmt.Sprint(n, " batches, and two, from above the first"), 6, l, limit)]++
				}
			}
		}
	}
	for _, e := range []api.Errno{api.OK, api.ErrArg, api.ErrBound, api.ErrOrder, api.ErrRoom} {
		if told[e] < 100 {
			t.Errorf("that looks at too little of error %d: %v", e, told)
		}
	}
	for _, x := range []struct {
		name  string
		base  int
		l     []api.Batch
		limit int
		e     api.Errno
	}{
		{"below the Base", 6, []api.Batch{data(5, 3)}, topSize, api.ErrOrder},
		{"at Last of the one ahead", 5, []api.Batch{data(5, 3), data(7, 1)}, topSize, api.ErrOrder},
		{"a Base that may not be, and a batch", -1, []api.Batch{data(5, 3)}, topSize, api.ErrArg},
		{"a Base that may not be, and one that is too long", top + 1, []api.Batch{tooLong(5)}, topSize, api.ErrArg},
		{"a limit that may not be, and one that is too long", 5, []api.Batch{tooLong(5)}, topSize + 1, api.ErrArg},
		{"out of order, and then without form", 5, []api.Batch{data(4, 1), {Base: -1}}, topSize, api.ErrOrder},
		{"too long, and then out of order", 5, []api.Batch{tooLong(5), data(4, 1)}, topSize, api.ErrBound},
		{"no room, and then too long", 5, []api.Batch{data(5, 1), tooLong(6)}, 1, api.ErrRoom},
		{"no room, and then without form", 5, []api.Batch{data(5, 1), {Base: -1}}, 1, api.ErrRoom},
		{"without form, and then no room", 5, []api.Batch{{Base: -1}, data(5, 1)}, 1, api.ErrArg},
		{"the third has no room", 0, []api.Batch{sized(0, 2048), sized(16, 2048), cleaned(32, 1)}, topSize, api.ErrRoom},
		{"the 232nd has no room", 0, shortest(232), topSize, api.ErrRoom},
		{"one that is behind what has no room is not looked at", 0, append(shortest(232), api.Batch{Base: -1}), topSize, api.ErrRoom},
		{"very many", 0, make([]api.Batch, 1<<16), topSize, api.ErrOrder},
	} {
		if e := makes(t, x.name, x.base, x.l, x.limit); e != x.e {
			t.Errorf("%s: the test's words tell %d, want %d", x.name, e, x.e)
		}
	}
}

// cuts fails, unless Cut tells the segment's first n batches alone.
func cuts(t *testing.T, name string, s api.Seg, off int, l []api.Batch) {
	t.Helper()
	stays(t, name, s, func(s api.Seg) {
		want := segOf(s.Base, l)
		if x := seg.Cut(s, off); !same(x, want) {
			t.Errorf("%s: Cut of %s at %d tells %s, want %s", name, brief(s), off, brief(x), brief(want))
		}
	})
}

func TestP7_3Cut(t *testing.T) {
	s := shape{"by hand", 5, []api.Batch{data(5, 3), mark(9, api.Commit), data(10, 1)}}
	for off, n := range map[int]int{math.MinInt: 0, -1: 0, 0: 0, 4: 0, 5: 0, 6: 0, 7: 0, 8: 1, 9: 1, 10: 2, 11: 3, 12: 3, top: 3, top + 1: 3, math.MaxInt: 3} {
		cuts(t, s.name, s.seg(), off, s.l[:n])
	}
	for _, x := range shapes() {
		offs := []int{math.MinInt, -1, 0, x.base - 1, x.base, x.base + 1, top, top + 1, math.MaxInt}
		for _, b := range x.l {
			offs = append(offs, b.Base-1, b.Base, b.Last-1, b.Last, b.Last+1, b.Last+2)
		}
		for _, off := range offs {
			n := slices.IndexFunc(x.l, func(b api.Batch) bool { return b.Last >= off })
			if n < 0 {
				n = len(x.l)
			}
			cuts(t, x.name, x.seg(), off, x.l[:n])
		}
	}
}

// What is no batch of the segment is gone also where nothing is cut, and stops nothing: a batch behind it is none.
func TestP7_3CutOfWhatIsNotWhole(t *testing.T) {
	for _, x := range odds() {
		l := x.l[:x.told]
		for _, off := range []int{math.MinInt, -1, 0, 1, 2, 3, 4, 5, 6, 7, 8, 9, 10, 11, 12, 13, 20, top - 1, top, top + 1, math.MaxInt} {
			n := slices.IndexFunc(l, func(b api.Batch) bool { return b.Last >= off })
			if n < 0 {
				n = len(l)
			}
			cuts(t, x.name, x.seg(), off, l[:n])
			if want := wordsCut(x.seg(), off); !same(want, segOf(x.base, l[:n])) {
				t.Fatalf("%s: the test's words tell %s at %d", x.name, brief(want), off)
			}
		}
	}
}

// looks holds Scan, End, Fix and Cut against the words.
func looks(t *testing.T, name string, s api.Seg) (told int) {
	t.Helper()
	l, good := wordsScan(s)
	tells(t, name, s, l, good)
	for _, off := range []int{s.Base, wordsEnd(s) - 1, wordsEnd(s)} {
		if x, want := seg.Cut(s, off), wordsCut(s, off); !same(x, want) {
			t.Errorf("%s: Cut of %s at %d tells %s, want %s", name, brief(s), off, brief(x), brief(want))
		}
	}
	return len(l)
}

// places are where the batches of a shape begin, and where the last one ends.
func places(l []api.Batch) []int {
	at := []int{0}
	for i := range l {
		at = append(at, at[i]+len(bytesOf(l[i])))
	}
	return at
}

func TestP7_4BytesThatAreCutOff(t *testing.T) {
	for _, x := range shapes() {
		s, at := x.seg(), places(x.l)
		for n := range len(s.Bytes) {
			if len(s.Bytes) > 500 && n%7 != 0 && !slices.Contains(at, n) && !slices.Contains(at, n+1) {
				continue
			}
			whole, _ := slices.BinarySearch(at, n+1)
			torn := api.Seg{Base: x.base, Bytes: s.Bytes[:n]}
			tells(t, fmt.Sprint(x.name, ", cut off at ", n), torn, x.l[:whole-1], at[whole-1])
		}
	}
}

func TestP7_4BytesThatAreSpoilt(t *testing.T) {
	for _, x := range shapes() {
		s, at := x.seg(), places(x.l)
		if len(s.Bytes) > 1000 {
			continue
		}
		for n, was := range s.Bytes {
			ahead, _ := slices.BinarySearch(at, n+1)
			for c := range 256 {
				if byte(c) == was {
					continue
				}
				spoilt := api.Seg{Base: x.base, Bytes: slices.Clone(s.Bytes)}
				spoilt.Bytes[n] = byte(c)
				l, good := seg.Scan(spoilt)
				if len(l) != ahead-1 || !alike(l, x.l[:ahead-1]) || good != at[ahead-1] {
					t.Fatalf("%s, byte %d is %d: got %s, %d bytes, want %d batches, %d", x.name, n, c, briefly(l), good, ahead-1, at[ahead-1])
				}
				if c%64 == 0 {
					tells(t, fmt.Sprint(x.name, ", byte ", n, " is ", c), spoilt, x.l[:ahead-1], at[ahead-1])
				}
			}
		}
	}
}

// Of long segments each byte is changed in one way.
func TestP7_4BytesThatAreSpoiltOfLongOnes(t *testing.T) {
	for _, x := range shapes() {
		s, at := x.seg(), places(x.l)
		if len(s.Bytes) <= 1000 {
			continue
		}
		for n := 0; n < len(s.Bytes); n += 1 + n%5 {
			ahead, _ := slices.BinarySearch(at, n+1)
			spoilt := api.Seg{Base: x.base, Bytes: slices.Clone(s.Bytes)}
			spoilt.Bytes[n] ^= 1 << (n % 8)
			tells(t, fmt.Sprint(x.name, ", byte ", n), spoilt, x.l[:ahead-1], at[ahead-1])
		}
	}
}

// anyBatch is a batch that may be, from that offset on.
func anyBatch(r *rand.Rand, base int) api.Batch {
	switch r.Intn(6) {
	case 0:
		return mark(base, 1+r.Intn(2))
	case 1:
		return written(base)
	case 2:
		return cleaned(base, 1+r.Intn(16))
	case 3:
		return sized(base, 1300+r.Intn(749))
	}
	return data(base, 1+r.Intn(16))
}

func TestP7_4WhatWasAppendedIsTold(t *testing.T) {
	r := rand.New(rand.NewSource(7))
	told := map[api.Errno]int{}
	for round := range 150 {
		base := []int{0, 5, 5000, top - 300}[r.Intn(4)]
		limit := []int{topSize, 1 + r.Intn(topSize)}[r.Intn(2)]
		s, e := seg.New(base)
		if e != api.OK {
			t.Fatalf("New(%d): %d", base, e)
		}
		var l []api.Batch
		for range 12 {
			at := seg.End(s) + max(0, r.Intn(5)-2) - r.Intn(8)/7
			if at < 0 || at > top-16 {
				continue
			}
			b := anyBatch(r, at)
			x, e := seg.Append(s, b, limit)
			told[e]++
			if want, wantE := wordsAppend(s, b, limit); e != wantE || !same(x, want) {
				t.Fatalf("round %d: got %s, %d, want %s, %d", round, brief(x), e, brief(want), wantE)
			}
			if e == api.OK {
				s, l = x, append(l, b)
			}
			tells(t, fmt.Sprint("round ", round), s, l, len(bytesOf(l...)))
		}
		if x, e := seg.Of(base, l, limit); e != api.OK || !same(x, s) {
			t.Fatalf("round %d: Of tells %s, %d, want %s", round, brief(x), e, brief(s))
		}
	}
	if told[api.OK] < 300 || told[api.ErrOrder] < 20 || told[api.ErrRoom] < 100 {
		t.Errorf("that looks at too little: %v", told)
	}
}

// Batches in any order, and other bytes among them, are told up to the first that is none.
func TestP7_4WhateverTheBytesAre(t *testing.T) {
	r := rand.New(rand.NewSource(71))
	told := map[int]int{}
	for round := range 3000 {
		s := api.Seg{Base: []int{-1, 0, 3, 10, 20, top, top + 1}[r.Intn(7)]}
		at := max(s.Base, 0)
		for range 1 + r.Intn(6) {
			x := bytesOf(anyBatch(r, min(at, top-15)))
			switch r.Intn(24) {
			case 0:
				x = x[:r.Intn(len(x))]
			case 1:
				x[r.Intn(len(x))] ^= byte(1 << r.Intn(8))
			case 2:
				x = append(x, byte(r.Intn(3)))
			case 3:
				at = max(0, at-r.Intn(20))
			}
			at += 16
			s.Bytes = append(s.Bytes, x...)
		}
		told[looks(t, fmt.Sprint("round ", round), s)]++
	}
	for n := range 5 {
		if told[n] < 50 {
			t.Errorf("that looks at too little of %d batches: %v", n, told)
		}
	}
}

// apart fails, if one of the lists, or the room behind it, changes with another one.
func apart(t *testing.T, name string, lists ...[]byte) {
	t.Helper()
	was := make([][]byte, len(lists))
	for i, x := range lists {
		was[i] = slices.Clone(x[:cap(x)])
	}
	for i, x := range lists {
		all := x[:cap(x)]
		for k := range all {
			all[k] ^= 255
		}
		for k, y := range lists {
			if k != i && !bytes.Equal(y[:cap(y)], was[k]) {
				t.Errorf("%s: list %d changes with list %d", name, k, i)
			}
		}
		copy(all, was[i])
	}
}

func TestSegmentsThatAreToldAreNew(t *testing.T) {
	for name, s := range anySegs() {
		s = roomy(s)
		one, _ := seg.Fix(s)
		two, _ := seg.Fix(s)
		lists := [][]byte{s.Bytes, one.Bytes, two.Bytes}
		for _, off := range []int{math.MinInt, s.Base + 1, math.MaxInt} {
			lists = append(lists, seg.Cut(s, off).Bytes, seg.Cut(s, off).Bytes)
		}
		b := cleaned(min(max(wordsEnd(s), 0), top), 1)
		for range 2 {
			x, _ := seg.Append(s, b, topSize)
			lists = append(lists, x.Bytes)
		}
		apart(t, name, lists...)
	}
	for _, x := range shapes() {
		one, _ := seg.Of(x.base, x.l, topSize)
		two, _ := seg.Of(x.base, x.l, topSize)
		three, _ := seg.New(x.base)
		four, _ := seg.New(x.base)
		apart(t, x.name, one.Bytes, two.Bytes, three.Bytes, four.Bytes)
	}
}

// Two batches that are put behind the same segment do not touch each other.
func TestSegmentsThatBeginAlikeAreApart(t *testing.T) {
	for _, x := range shapes() {
		end := wordsEnd(x.seg())
		s, _ := seg.Of(x.base, x.l, topSize)
		if end > top || len(s.Bytes) > topSize-60 {
			continue
		}
		one, e := seg.Append(s, mark(end, api.Commit), topSize)
		two, f := seg.Append(s, mark(end, api.Abort), topSize)
		if e != api.OK || f != api.OK || !same(one, segOf(x.base, append(slices.Clone(x.l), mark(end, api.Commit)))) || !same(two, segOf(x.base, append(slices.Clone(x.l), mark(end, api.Abort)))) {
			t.Errorf("%s: got %s, %d, and %s, %d", x.name, brief(one), e, brief(two), f)
		}
	}
}

// What Scan told stays as it is when the bytes that it was read from do not, and none of its lists hangs on another one.
func TestBatchesThatAreToldAreNew(t *testing.T) {
	for _, x := range shapes() {
		s := x.seg()
		one, _ := seg.Scan(s)
		two, _ := seg.Scan(s)
		clear(s.Bytes)
		if !alike(one, x.l) || !alike(two, x.l) {
			t.Errorf("%s: once the bytes are others, %s and %s are told", x.name, briefly(one), briefly(two))
		}
		for i := range one {
			clear(one[i].Recs[:cap(one[i].Recs)])
			for k := range one {
				if k > i && !alike(one[k:k+1], x.l[k:k+1]) {
					t.Errorf("%s: batch %d changes with batch %d", x.name, k, i)
				}
			}
		}
		clear(one[:cap(one)])
		if !alike(two, x.l) {
			t.Errorf("%s: what was told changes with what was told again", x.name)
		}
	}
}

// What was made of batches stays as it is when these do not.
func TestBytesAreApartFromBatches(t *testing.T) {
	for _, x := range shapes() {
		l := copies(x.l)
		s, e := seg.Of(x.base, l, topSize)
		for i := range l {
			clear(l[i].Recs[:cap(l[i].Recs)])
		}
		clear(l)
		if e != api.OK || !same(s, x.seg()) {
			t.Errorf("%s: once the batches are others, %s is told", x.name, brief(s))
		}
	}
}

// batch.Same holds lists against each other as this test does: what the layer below tells of what is told.
func TestWhatIsToldIsTheSameToTheLayerBelow(t *testing.T) {
	for _, x := range shapes() {
		s, _ := seg.Of(x.base, x.l, topSize)
		if l, _ := seg.Scan(s); !slices.EqualFunc(l, x.l, batch.Same) {
			t.Errorf("%s: got %s, want %s", x.name, briefly(l), briefly(x.l))
		}
	}
}
