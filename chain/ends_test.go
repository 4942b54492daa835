package chain_test

import (
	"bytes"
	"fmt"
	"math"
	"math/rand"
	"slices"
	"testing"

	"watermeet/api"
	"watermeet/batch"
	"watermeet/chain"
	"watermeet/seg"
)

func TestP9_4Truncate(t *testing.T) {
	told := map[api.Errno]int{}
	for _, x := range shapes() {
		offs := offsAbout(x.l)
		if len(x.l.Segs) > 8 {
			offs = some(offs, 40)
		}
		for _, to := range offs {
			got, e := truncates(t, x.name, x.l, to)
			told[e]++
			if e == api.OK && to <= top && chain.End(got) > max(to, x.l.Start) {
				t.Errorf("%s: truncated to %d it ends at %d", x.name, to, chain.End(got))
			}
		}
	}
	if told[api.OK] < 400 || told[api.ErrRange] < 400 {
		t.Errorf("that looks at too little: %v", told)
	}
}

func TestP9_4TruncateByHand(t *testing.T) {
	a, b, c, d := data(10, 3), mark(13, api.Commit), cleaned(14, 2), data(17, 2)
	one, two := segOf(10, a, b), segOf(14, c, d)
	l := logOf(256, 5, one, two, segOf(20, data(20, 2), data(22, 3)))
	for _, x := range []struct {
		to   int
		segs []api.Seg
		end  int
	}{
		{5, []api.Seg{segOf(5)}, 5},
		{9, []api.Seg{segOf(9)}, 9},
		{10, []api.Seg{segOf(10)}, 10},
		{11, []api.Seg{segOf(10)}, 10},
		{12, []api.Seg{segOf(10)}, 10},
		{13, []api.Seg{segOf(10, a)}, 13},
		{14, []api.Seg{one}, 14},
		{15, []api.Seg{one, segOf(14)}, 14},
		{16, []api.Seg{one, segOf(14, c)}, 16},
		{18, []api.Seg{one, segOf(14, c)}, 16},
		{19, []api.Seg{one, two}, 19},
		{20, []api.Seg{one, two}, 19},
		{21, []api.Seg{one, two, segOf(20)}, 20},
		{22, []api.Seg{one, two, segOf(20, data(20, 2))}, 22},
		{24, []api.Seg{one, two, segOf(20, data(20, 2))}, 22},
		{25, l.Segs, 25},
	} {
		got, e := chain.Truncate(l, x.to)
		if e != api.OK || !same(got, logOf(256, 5, x.segs...)) || chain.End(got) != x.end {
			t.Errorf("to %d: got %s, %d, that ends at %d, want %s at %d", x.to, brief(got), e, chain.End(got), brief(logOf(256, 5, x.segs...)), x.end)
		}
	}
	for _, to := range []int{math.MinInt, -1, 0, 4, 26, top, top + 1, math.MaxInt} {
		if got, e := chain.Truncate(l, to); e != api.ErrRange || !same(got, api.Log{}) {
			t.Errorf("to %d: got %s, %d", to, brief(got), e)
		}
	}
}

// What is below Start stays in its segment, also where all that is above it is taken off.
func TestP9_4TruncateAtStart(t *testing.T) {
	a, b, c := data(10, 3), data(13, 4), data(20, 2)
	for _, x := range []struct {
		start, to int
		segs      []api.Seg
		end       int
	}{
		{13, 13, []api.Seg{segOf(10, a)}, 13},
		{14, 14, []api.Seg{segOf(10, a)}, 14},
		{17, 17, []api.Seg{segOf(10, a, b)}, 17},
		{18, 18, []api.Seg{segOf(10, a, b)}, 18},
		{18, 20, []api.Seg{segOf(10, a, b)}, 18},
		{18, 21, []api.Seg{segOf(10, a, b), segOf(20)}, 20},
		{21, 21, []api.Seg{segOf(10, a, b), segOf(20)}, 21},
		{40, 40, []api.Seg{segOf(10, a, b), segOf(20, c)}, 40},
	} {
		l := logOf(256, x.start, segOf(10, a, b), segOf(20, c))
		got, e := truncates(t, "at Start", l, x.to)
		if e != api.OK || !same(got, logOf(256, x.start, x.segs...)) || chain.End(got) != x.end {
			t.Errorf("Start %d, to %d: got %s, %d, that ends at %d", x.start, x.to, brief(got), e, chain.End(got))
		}
	}
}

func TestP9_5Trim(t *testing.T) {
	told := map[api.Errno]int{}
	for _, x := range shapes() {
		offs := offsAbout(x.l)
		if len(x.l.Segs) > 8 {
			offs = some(offs, 40)
		}
		for _, start := range offs {
			got, e := trims(t, x.name, x.l, start)
			told[e]++
			if e != api.OK {
				continue
			}
			left := slices.DeleteFunc(chain.All(x.l), func(b api.Batch) bool { return b.Last < start })
			if got.Start != start || chain.End(got) != chain.End(x.l) || !alike(chain.All(got), left) {
				t.Errorf("%s: trimmed to %d it is %s with %s, and ends at %d", x.name, start, brief(got), briefly(chain.All(got)), chain.End(got))
			}
		}
	}
	if told[api.OK] < 400 || told[api.ErrRange] < 400 {
		t.Errorf("that looks at too little: %v", told)
	}
}

func TestP9_5TrimByHand(t *testing.T) {
	segs := []api.Seg{segOf(10, data(10, 3)), segOf(14), segOf(15, mark(16, api.Abort), data(17, 2)), segOf(19, cleaned(20, 3)), segOf(23, data(23, 2))}
	l := logOf(256, 5, segs...)
	for start, gone := range map[int]int{5: 0, 9: 0, 10: 0, 11: 0, 12: 0, 13: 1, 14: 2, 15: 2, 16: 2, 17: 2, 18: 2, 19: 3, 20: 3, 22: 3, 23: 4, 24: 4, 25: 4} {
		if got, e := chain.Trim(l, start); e != api.OK || !same(got, logOf(256, start, segs[gone:]...)) {
			t.Errorf("to %d: got %s, %d, want without %d", start, brief(got), e, gone)
		}
	}
	for _, start := range []int{math.MinInt, -1, 0, 4, 26, top, top + 1, math.MaxInt} {
		if got, e := chain.Trim(l, start); e != api.ErrRange || !same(got, api.Log{}) {
			t.Errorf("to %d: got %s, %d", start, brief(got), e)
		}
	}
}

// A segment that ends later than Start keeps those behind it, also ones without bytes; and the last one stays whatever Start is.
func TestP9_5TrimOfSegmentsWithoutBytes(t *testing.T) {
	segs := []api.Seg{segOf(4), segOf(5), segOf(9), segOf(20)}
	for start, gone := range map[int]int{0: 0, 3: 0, 4: 1, 5: 2, 8: 2, 9: 3, 19: 3, 20: 3} {
		if got, e := trims(t, "without bytes", logOf(256, 0, segs...), start); e != api.OK || !same(got, logOf(256, start, segs[gone:]...)) {
			t.Errorf("to %d: got %s, %d, want without %d", start, brief(got), e, gone)
		}
	}
	for _, start := range []int{30, 31, 1000, top} {
		l := logOf(256, start, segs...)
		if got, e := trims(t, "Start above all", l, start); e != api.OK || !same(got, logOf(256, start, segs[3:]...)) {
			t.Errorf("Start %d: got %s, %d", start, brief(got), e)
		}
	}
}

// The end of a log whose last offset is the top is none: Truncate may go there, and Read; Trim may not.
func TestP9_5TheEndBehindTheTop(t *testing.T) {
	l := logOf(256, 10, segOf(10, data(10, 2)), segOf(20, mark(top, api.Commit)))
	for start, e := range map[int]api.Errno{top - 1: api.OK, top: api.OK, top + 1: api.ErrRange, top + 2: api.ErrRange} {
		if got, f := trims(t, "behind the top", l, start); f != e || e == api.OK && !same(got, logOf(256, start, l.Segs[1])) {
			t.Errorf("Trim to %d: got %s, %d, want %d", start, brief(got), f, e)
		}
	}
	for to, e := range map[int]api.Errno{top - 1: api.OK, top: api.OK, top + 1: api.OK, top + 2: api.ErrRange} {
		want := logOf(256, 10, l.Segs[0], segOf(20))
		if to > top {
			want = l
		}
		if got, f := truncates(t, "behind the top", l, to); f != e || e == api.OK && !same(got, want) {
			t.Errorf("Truncate to %d: got %s, %d, want %d", to, brief(got), f, e)
		}
	}
	if _, e := appends(t, "behind the top", l, mark(top, api.Commit)); e != api.ErrOrder {
		t.Errorf("behind the top a batch is put: %d", e)
	}
}

// lists are batches that go into a segment of that Base below the next one's, and others.
func lists(base, next int) [][]api.Batch {
	x := [][]api.Batch{nil, {}, {{Base: -1}}, {tooLong(base)}, {tooLong(0)}, {sized(base, 256)}, {sized(base, 257)}, {sized(base, 2048)},
		{sized(base, 156), sized(base+5, 100)}, {sized(base, 156), sized(base+5, 101)},
		{data(base, 2), data(base, 1)}, {data(base, 2), data(base+1, 1)}, {data(base, 2), {Base: -1}}, {cleaned(base, 1), tooLong(base + 1)}, {tooLong(base), data(0, 1)},
		{data(base, 1)}, {cleaned(base, 16)}, {mark(base, api.Commit), mark(base+1, api.Abort)}, {written(base), data(base+5, 2)}}
	for _, n := range []int{0, base - 1, base + 1, next - 2, next - 1, next, next + 1, top} {
		if n >= 0 && n <= top {
			x = append(x, []api.Batch{cleaned(n, 1)}, []api.Batch{cleaned(max(n-3, 0), min(n, 3)+1)}, []api.Batch{data(base, 1), mark(n, api.Commit)})
		}
	}
	return x
}

func TestP9_6Replace(t *testing.T) {
	told := map[api.Errno]int{}
	for _, x := range shapes() {
		if len(x.l.Segs) > 8 && x.l.Limit > 256 {
			continue
		}
		nums := []int{math.MinInt, -1, 0, 1, 2, len(x.l.Segs) - 2, len(x.l.Segs) - 1, len(x.l.Segs), math.MaxInt}
		for _, n := range some(nums, 9) {
			base, next := 10, 20
			if n >= 0 && n < len(x.l.Segs)-1 {
				base, next = x.l.Segs[n].Base, x.l.Segs[n+1].Base
			}
			all := lists(base, next)
			if len(x.l.Segs) > 8 {
				all = some(all, 6)
			}
			for _, bs := range all {
				_, e := replaces(t, x.name, x.l, n, bs)
				if n < 0 || n >= len(x.l.Segs)-1 {
					if e != api.ErrRange {
						t.Errorf("%s: Replace of %d of %d tells %d", x.name, n, len(x.l.Segs), e)
					}
				}
				told[e]++
			}
		}
	}
	for _, e := range []api.Errno{api.OK, api.ErrArg, api.ErrBound, api.ErrOrder, api.ErrRoom, api.ErrRange} {
		if told[e] < 60 {
			t.Errorf("that looks at too little of error %d: %v", e, told)
		}
	}
}

func TestP9_6ReplaceByHand(t *testing.T) {
	formless := api.Batch{Base: 14, Last: 13, Pid: -1}
	l := logOf(256, 10, triple()...)
	torn := with(l, 0, api.Seg{Base: 10, Bytes: []byte{0}})
	for _, x := range []struct {
		name string
		l    api.Log
		n    int
		bs   []api.Batch
		e    api.Errno
	}{
		{"by none", l, 0, nil, api.OK},
		{"by fewer", l, 0, []api.Batch{data(10, 3)}, api.OK},
		{"by others", l, 1, []api.Batch{mark(15, api.Abort), mark(18, api.Commit)}, api.OK},
		{"up to below the next one's Base", l, 1, []api.Batch{cleaned(19, 1)}, api.OK},
		{"at the next one's Base", l, 1, []api.Batch{cleaned(20, 1)}, api.ErrOrder},
		{"across the next one's Base", l, 1, []api.Batch{cleaned(18, 3)}, api.ErrOrder},
		{"above the next one's end", l, 0, []api.Batch{data(10, 3), cleaned(90, 1)}, api.ErrOrder},
		{"the first one, into what was free of the one ahead of the next", l, 0, []api.Batch{data(10, 5)}, api.ErrOrder},
		{"of just Limit bytes", l, 1, []api.Batch{sized(14, 256)}, api.OK},
		{"of one more than Limit bytes", l, 1, []api.Batch{sized(14, 257)}, api.ErrRoom},
		{"of just Limit bytes, in two", l, 1, []api.Batch{sized(14, 156), sized(17, 100)}, api.OK},
		{"of one more than Limit bytes, in two", l, 1, []api.Batch{sized(14, 156), sized(17, 101)}, api.ErrRoom},
		{"too large, and above the next one's Base", l, 1, []api.Batch{sized(90, 257)}, api.ErrRoom},
		{"too long", l, 1, []api.Batch{tooLong(14)}, api.ErrBound},
		{"without form", l, 1, []api.Batch{formless}, api.ErrArg},
		{"above the next one's Base, and without form", l, 1, []api.Batch{data(90, 1), formless}, api.ErrArg},
		{"below the Base", l, 1, []api.Batch{data(13, 1)}, api.ErrOrder},
		{"below the Base, and without form", l, 1, []api.Batch{data(13, 1), formless}, api.ErrOrder},
		{"out of order", l, 1, []api.Batch{data(15, 1), data(14, 1)}, api.ErrOrder},
		{"the last one", l, 2, []api.Batch{data(20, 1)}, api.ErrRange},
		{"the last one, without form", l, 2, []api.Batch{formless}, api.ErrRange},
		{"one below 0", l, -1, nil, api.ErrRange},
		{"one below 0, without form", l, -1, []api.Batch{formless}, api.ErrRange},
		{"one too large", l, 3, nil, api.ErrRange},
		{"one very large", l, math.MaxInt, nil, api.ErrRange},
		{"one very low", l, math.MinInt, nil, api.ErrRange},
		{"a log that may not be, and one below 0", torn, -1, nil, api.ErrArg},
		{"a log that may not be, and one that is not whole is to go", torn, 0, nil, api.ErrArg},
		{"257 segments, and one below 0", logOf(256, 10, single(257)...), -1, nil, api.ErrBound},
		{"257 segments, and without form", logOf(256, 10, single(257)...), 0, []api.Batch{formless}, api.ErrBound},
		{"the only one", logOf(256, 10, segOf(10)), 0, nil, api.ErrRange},
	} {
		got, e := replaces(t, x.name, x.l, x.n, x.bs)
		if e != x.e || e == api.OK && !same(got, with(x.l, x.n, segOf(x.l.Segs[x.n].Base, x.bs...))) {
			t.Errorf("%s: got %s, %d, want %d", x.name, brief(got), e, x.e)
		}
	}
}

func TestP9_7RecoverOfWholeOnes(t *testing.T) {
	for _, x := range shapes() {
		if got, lost := recovers(t, x.name, x.l); !same(got, x.l) || lost != 0 {
			t.Errorf("%s: got %s, %d lost, want %s", x.name, brief(got), lost, brief(x.l))
		}
	}
}

func TestP9_7RecoverOfAnyLog(t *testing.T) {
	for name, l := range anyLogs() {
		recovers(t, name, l)
	}
}

// A log that does not say enough is not mended at all, whatever else it has.
func TestP9_7RecoverOfNothing(t *testing.T) {
	segs := triple()
	ls := []api.Log{{}, logOf(256, 0), logOf(256, 0, []api.Seg{}...), logOf(0, 0, segs...)}
	for _, limit := range []int{math.MinInt, -1, 0, 255, 4097, math.MaxInt} {
		ls = append(ls, logOf(limit, 10, segs...))
	}
	for _, start := range []int{math.MinInt, -1, top + 1, math.MaxInt} {
		ls = append(ls, logOf(256, start, segs...))
	}
	for _, base := range []int{math.MinInt, -1, top + 1, math.MaxInt} {
		ls = append(ls, logOf(256, 10, api.Seg{Base: base}), logOf(256, 10, segOf(base, data(10, 3))), logOf(256, 10, segOf(base, data(10, 3)), segs[1], segs[2]))
	}
	for _, l := range ls {
		if got, lost := recovers(t, "nothing", l); !same(got, api.Log{}) || lost != 0 {
			t.Errorf("Recover of %s tells %s, %d", brief(l), brief(got), lost)
		}
	}
	for _, l := range []api.Log{logOf(256, 0, segs...), logOf(4096, top, segs...), logOf(256, 10, segOf(top)), logOf(256, 10, segOf(0))} {
		if got, lost := recovers(t, "enough", l); !same(got, l) || lost != 0 {
			t.Errorf("Recover of %s tells %s, %d", brief(l), brief(got), lost)
		}
	}
}

func TestP9_7RecoverByBases(t *testing.T) {
	a, b, c := segOf(10, data(10, 3)), segOf(20, data(20, 2)), segOf(30, data(30, 1))
	size := func(segs ...api.Seg) int { return sizeOf(logOf(0, 0, segs...)) }
	for _, x := range []struct {
		name string
		segs []api.Seg
		left int
	}{
		{"all rise", []api.Seg{a, b, c}, 3},
		{"the second falls", []api.Seg{b, a, c}, 1},
		{"the third falls", []api.Seg{a, c, b}, 2},
		{"the third is the first again", []api.Seg{a, b, a}, 2},
		{"the second twice", []api.Seg{a, b, b, c}, 2},
		{"a Base twice, without bytes", []api.Seg{segOf(10), segOf(10), b}, 1},
		{"a Base twice, with bytes behind", []api.Seg{segOf(10), a, b}, 1},
		{"a Base twice, with bytes ahead", []api.Seg{a, segOf(10), b}, 1},
		{"a Base within the one ahead", []api.Seg{a, segOf(12), b}, 1},
		{"a Base at the end of the one ahead", []api.Seg{a, segOf(13), b}, 3},
		{"a Base of one more, without bytes", []api.Seg{segOf(10), segOf(11), b}, 3},
		{"a Base below all", []api.Seg{a, b, segOf(-1)}, 2},
		{"the least Base there is", []api.Seg{a, segOf(math.MinInt), c}, 1},
		{"a Base that falls behind one that is not whole", []api.Seg{a, {Base: 20, Bytes: []byte{1}}, a, c}, 2},
	} {
		got, lost := recovers(t, x.name, logOf(256, 10, x.segs...))
		left := slices.Clone(x.segs[:x.left])
		left[x.left-1], _ = seg.Fix(left[x.left-1])
		if !same(got, logOf(256, 10, left...)) || lost != size(x.segs...)-size(left...) {
			t.Errorf("%s: got %s, %d lost, want the first %d", x.name, brief(got), lost, x.left)
		}
	}
}

// What Recover does not name does not stop it: too many segments, too many bytes, a Base behind the first one's that is no offset.
func TestP9_7RecoverOfWhatMayNotBe(t *testing.T) {
	for _, l := range []api.Log{
		logOf(256, 10, single(257)...),
		logOf(256, 10, empty(1000)...),
		logOf(256, 10, segOf(10, sized(10, 257)), segOf(40, sized(40, 2048), sized(70, 2048), sized(90, 2048)), segOf(200)),
		logOf(256, 10, segOf(10, data(10, 3)), segOf(top+1)),
		logOf(256, 10, segOf(10, data(10, 3)), segOf(math.MaxInt)),
	} {
		if got, lost := recovers(t, "what may not be", l); !same(got, l) || lost != 0 {
			t.Errorf("Recover of %s tells %s, %d lost", brief(l), brief(got), lost)
		}
	}
	l := logOf(256, 10, segOf(10, data(10, 3)), segOf(top+1, data(top, 1)), segOf(top+2))
	want := logOf(256, 10, l.Segs[0], segOf(top+1))
	if got, lost := recovers(t, "a Base above the top", l); !same(got, want) || lost != len(bytesOf(data(top, 1))) {
		t.Errorf("Recover of %s tells %s, %d lost", brief(l), brief(got), lost)
	}
	l = logOf(256, 10, api.Seg{Base: 10, Bytes: make([]byte, 1<<20)}, segOf(20, data(20, 2)))
	if got, lost := recovers(t, "very many bytes", l); !same(got, logOf(256, 10, segOf(10))) || lost != sizeOf(l) {
		t.Errorf("Recover of %s tells %s, %d lost", brief(l), brief(got), lost)
	}
}

// ahead are the batches of a segment whose bytes end at that place at most.
func ahead(s api.Seg, at int) []api.Batch {
	all, _ := seg.Scan(s)
	n := 0
	for n < len(all) && len(bytesOf(all[:n+1]...)) <= at {
		n++
	}
	return all[:n]
}

// left fails, unless Recover of a log that is wrong from a byte of a segment on tells what is ahead of that, and that alone.
func left(t *testing.T, name string, whole, l api.Log, n, at int) {
	t.Helper()
	want := api.Log{Limit: whole.Limit, Start: whole.Start, Segs: slices.Clone(whole.Segs[:n+1])}
	want.Segs[n] = segOf(whole.Segs[n].Base, ahead(whole.Segs[n], at)...)
	got, lost := recovers(t, name, l)
	if !same(got, want) || lost != sizeOf(l)-sizeOf(want) {
		t.Errorf("%s: got %s, %d lost, want %s, %d", name, brief(got), lost, brief(want), sizeOf(l)-sizeOf(want))
	}
	if e := chain.Check(got); e != api.OK {
		t.Errorf("%s: what is left may not be: %d", name, e)
	}
	all := slices.DeleteFunc(wordsAll(want), func(b api.Batch) bool { return b.Last < l.Start })
	if bs, e := chain.Read(got, l.Start, math.MaxInt); e != api.OK || !alike(bs, all) {
		t.Errorf("%s: of what is left is read %s, %d, want %s", name, briefly(bs), e, briefly(all))
	}
}

func TestP9_8WhatIsTornIsLost(t *testing.T) {
	for _, x := range small() {
		n := len(x.l.Segs) - 1
		s := x.l.Segs[n]
		for at := range s.Bytes {
			l := with(x.l, n, api.Seg{Base: s.Base, Bytes: bytes.Clone(s.Bytes[:at])})
			left(t, fmt.Sprint(x.name, ", torn at ", at), x.l, l, n, at)
		}
	}
}

// A closed segment that is torn where a batch ends is whole; where none ends, what stands behind it is lost as well.
func TestP9_8WhatIsTornOfAClosedSegment(t *testing.T) {
	for _, x := range small() {
		for n, s := range x.l.Segs[:len(x.l.Segs)-1] {
			for at := range s.Bytes {
				l := with(x.l, n, api.Seg{Base: s.Base, Bytes: bytes.Clone(s.Bytes[:at])})
				name := fmt.Sprint(x.name, ", segment ", n, " torn at ", at)
				if len(bytesOf(ahead(s, at)...)) < at {
					left(t, name, x.l, l, n, at)
				} else if got, lost := recovers(t, name, l); !same(got, l) || lost != 0 {
					t.Errorf("%s: got %s, %d lost", name, brief(got), lost)
				}
			}
		}
	}
}

func TestP9_8WhatIsSpoiltIsLost(t *testing.T) {
	told := 0
	for _, x := range small() {
		for n, s := range x.l.Segs {
			for at := range s.Bytes {
				for _, by := range []byte{1 << (at % 8), 255} {
					l := with(x.l, n, s)
					l.Segs[n].Bytes = bytes.Clone(s.Bytes)
					l.Segs[n].Bytes[at] ^= by
					left(t, fmt.Sprint(x.name, ", segment ", n, ", byte ", at, " by ", by), x.l, l, n, at)
					told++
				}
			}
		}
	}
	if told < 5000 {
		t.Errorf("that looks at too little: %d", told)
	}
}

// Of large logs some bytes are changed, some are cut off.
func TestP9_8WhatIsSpoiltOfLargeOnes(t *testing.T) {
	r := rand.New(rand.NewSource(98))
	for _, x := range shapes() {
		if sizeOf(x.l) <= 1500 {
			continue
		}
		for range 12 {
			n := r.Intn(len(x.l.Segs))
			s := api.Seg{Base: x.l.Segs[n].Base, Bytes: bytes.Clone(x.l.Segs[n].Bytes)}
			if len(s.Bytes) == 0 {
				continue
			}
			at := r.Intn(len(s.Bytes))
			s.Bytes[at] ^= byte(1 + r.Intn(255))
			left(t, fmt.Sprint(x.name, ", segment ", n, ", byte ", at), x.l, with(x.l, n, s), n, at)
			n = len(x.l.Segs) - 1
			s = x.l.Segs[n]
			at = r.Intn(len(s.Bytes))
			left(t, fmt.Sprint(x.name, ", torn at ", at), x.l, with(x.l, n, api.Seg{Base: s.Base, Bytes: s.Bytes[:at]}), n, at)
		}
	}
}

// anyBatch is a batch that may be, from that offset on.
func anyBatch(r *rand.Rand, base int) api.Batch {
	switch r.Intn(6) {
	case 0:
		return mark(base, 1+r.Intn(2))
	case 1:
		return written(base)
	case 2:
		return cleaned(base, 1+r.Intn(16))
	case 3:
		return sized(base, 40+r.Intn(300))
	}
	return data(base, 1+r.Intn(9))
}

// What is appended is read, from any offset on, at once and piece by piece.
func TestP9_8WhatIsAppendedIsRead(t *testing.T) {
	r := rand.New(rand.NewSource(9))
	segs := map[int]int{}
	for round := range 60 {
		limit, start := []int{256, 300, 1000, 4096}[r.Intn(4)], []int{0, 10, 5000, top - 400}[r.Intn(4)]
		l, e := chain.New(limit, start)
		if e != api.OK {
			t.Fatalf("New(%d, %d): %d", limit, start, e)
		}
		var all []api.Batch
		for range r.Intn(40) {
			b := anyBatch(r, chain.End(l)+r.Intn(3))
			x, e := chain.Append(l, b)
			if want := batch.Size(b) > limit; want != (e == api.ErrRoom) || !want && e != api.OK {
				t.Fatalf("round %d: Append of %d bytes tells %d", round, batch.Size(b), e)
			}
			if e == api.OK {
				l, all = x, append(all, b)
			}
		}
		segs[len(l.Segs)]++
		if got := chain.All(l); !alike(got, all) || chain.Check(l) != api.OK {
			t.Fatalf("round %d: All tells %s, want %s", round, briefly(got), briefly(all))
		}
		for from := start; from <= chain.End(l); from++ {
			i := slices.IndexFunc(all, func(b api.Batch) bool { return b.Last >= from })
			if i < 0 {
				i = len(all)
			}
			if got, e := chain.Read(l, from, math.MaxInt); e != api.OK || !alike(got, all[i:]) {
				t.Fatalf("round %d: from %d %s is read, %d, want %s", round, from, briefly(got), e, briefly(all[i:]))
			}
		}
		pieces(t, l, all, r.Intn(900))
	}
	if len(segs) < 8 {
		t.Errorf("that looks at too little: %v", segs)
	}
}

// pieces reads a log in pieces of at most so many bytes, each from where the one ahead ended.
func pieces(t *testing.T, l api.Log, all []api.Batch, most int) {
	t.Helper()
	var got []api.Batch
	from := l.Start
	for from < chain.End(l) {
		x, e := chain.Read(l, from, most)
		if e != api.OK || len(x) == 0 || len(x) > 1 && len(bytesOf(x...)) > most {
			t.Fatalf("from %d, most %d: got %s, %d", from, most, briefly(x), e)
		}
		got = append(got, x...)
		from = x[len(x)-1].Last + 1
	}
	if !alike(got, all) {
		t.Fatalf("piece by piece, most %d, %s is read, want %s", most, briefly(got), briefly(all))
	}
}

// Whatever is done with a log, one behind the other, is what the words say, and leaves one that may be.
func TestP9_8WhateverIsDone(t *testing.T) {
	r := rand.New(rand.NewSource(99))
	told := map[string]int{}
	for round := range 80 {
		l, e := chain.New([]int{256, 300, 400}[r.Intn(3)], r.Intn(20))
		for range 40 {
			if e != api.OK || wordsCheck(l) != api.OK {
				t.Fatalf("round %d: %s may not be", round, brief(l))
			}
			name := fmt.Sprint("round ", round)
			from, to := l.Start, chain.End(l)
			off := from - 2 + r.Intn(to-from+5)
			x, what, f := l, "", api.OK
			switch r.Intn(12) {
			default:
				what = "append"
				x, f = appends(t, name, l, anyBatch(r, max(0, to-r.Intn(2)*r.Intn(2)+r.Intn(4))))
			case 1:
				what = "truncate"
				x, f = truncates(t, name, l, max(off, to-20))
			case 2:
				what = "trim"
				x, f = trims(t, name, l, min(off, from+20))
			case 3:
				what = "replace"
				x, f = replaced(t, r, name, l)
			case 4:
				what = "recover"
				n := len(l.Segs) - 1
				s := l.Segs[n]
				x, _ = recovers(t, name, with(l, n, api.Seg{Base: s.Base, Bytes: s.Bytes[:len(s.Bytes)-min(len(s.Bytes), r.Intn(30))]}))
			}
			told[fmt.Sprint(what, f == api.OK)]++
			if f == api.OK {
				l = x
			}
			checks(t, name, l)
			reads(t, name, l, off, r.Intn(600))
		}
	}
	for _, x := range []string{"appendtrue", "appendfalse", "truncatetrue", "truncatefalse", "trimtrue", "trimfalse", "replacetrue", "replacefalse", "recovertrue"} {
		if told[x] < 20 {
			t.Errorf("that looks at too little of %s: %v", x, told)
		}
	}
}

// replaced takes batches off a segment, and hands others in for some.
func replaced(t *testing.T, r *rand.Rand, name string, l api.Log) (api.Log, api.Errno) {
	t.Helper()
	n := r.Intn(len(l.Segs)+2) - 1
	var bs []api.Batch
	if n >= 0 && n < len(l.Segs) {
		all, _ := seg.Scan(l.Segs[n])
		for _, b := range all {
			switch r.Intn(6) {
			case 0:
			case 1:
				bs = append(bs, cleaned(b.Base, b.Last-b.Base+1))
			case 2:
				bs = append(bs, anyBatch(r, b.Base))
			default:
				bs = append(bs, b)
			}
		}
	}
	return replaces(t, name, l, n, bs)
}

// listsOf are all lists of bytes of logs.
func listsOf(logs ...api.Log) (x [][]byte) {
	for _, l := range logs {
		for _, s := range l.Segs {
			x = append(x, s.Bytes)
		}
	}
	return x
}

// apart fails, if one of the lists, or the room behind it, changes with another one.
func apart(t *testing.T, name string, lists ...[]byte) {
	t.Helper()
	was := make([][]byte, len(lists))
	for i, x := range lists {
		was[i] = bytes.Clone(x[:cap(x)])
	}
	for i, x := range lists {
		all := x[:cap(x)]
		for k := range all {
			all[k] ^= 255
		}
		for k, y := range lists {
			if k != i && !bytes.Equal(y[:cap(y)], was[k]) {
				t.Errorf("%s: list %d changes with list %d", name, k, i)
			}
		}
		copy(all, was[i])
	}
}

// calls are what is told of a log by each call that tells one, each twice.
func calls(l api.Log) map[string][]api.Log {
	end := wordsEnd(l)
	all := map[string]func() (api.Log, api.Errno){
		"Append":         func() (api.Log, api.Errno) { return chain.Append(l, cleaned(min(end, top), 1)) },
		"Append, of one": func() (api.Log, api.Errno) { return chain.Append(l, sized(min(end, top-1), 256)) },
		"Truncate, all":  func() (api.Log, api.Errno) { return chain.Truncate(l, l.Start) },
		"Truncate, half": func() (api.Log, api.Errno) { return chain.Truncate(l, (l.Start+end)/2) },
		"Truncate":       func() (api.Log, api.Errno) { return chain.Truncate(l, end) },
		"Trim":           func() (api.Log, api.Errno) { return chain.Trim(l, l.Start) },
		"Trim, half":     func() (api.Log, api.Errno) { return chain.Trim(l, (l.Start+end)/2) },
		"Trim, all":      func() (api.Log, api.Errno) { return chain.Trim(l, min(end, top)) },
		"Replace":        func() (api.Log, api.Errno) { return chain.Replace(l, 0, nil) },
		"Recover":        func() (api.Log, api.Errno) { x, _ := chain.Recover(l); return x, api.OK },
		"New":            func() (api.Log, api.Errno) { return chain.New(l.Limit, l.Start) },
	}
	told := map[string][]api.Log{}
	for name, call := range all {
		one, e := call()
		two, _ := call()
		if e == api.OK {
			told[name] = []api.Log{one, two}
		}
	}
	return told
}

func TestLogsThatAreToldAreNew(t *testing.T) {
	for _, x := range small() {
		l := roomy(x.l)
		for name, two := range calls(l) {
			name = x.name + ": " + name
			apart(t, name, listsOf(append(two, l)...)...)
			was, wasTwo := room(l), room(two[1])
			scribble(two[0])
			if !same(room(l), was) {
				t.Errorf("%s: what was handed in changes with what is told", name)
			}
			if !same(room(two[1]), wasTwo) {
				t.Errorf("%s: what is told changes with what was told ahead of it", name)
			}
		}
	}
}

// What is told stays as it is when what was handed in does not.
func TestLogsThatAreToldStay(t *testing.T) {
	for _, x := range small() {
		l := roomy(x.l)
		told := calls(l)
		was := map[string]api.Log{}
		for name, two := range told {
			was[name] = room(two[0])
		}
		scribble(l)
		for name, two := range told {
			if !same(room(two[0]), was[name]) {
				t.Errorf("%s: %s changes with what was handed in", x.name, name)
			}
		}
	}
}
