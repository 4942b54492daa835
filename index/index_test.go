package index_test

import (
	"fmt"
	"math"
	"math/rand"
	"slices"
	"testing"

	"watermeet/api"
	"watermeet/index"
	"watermeet/seg"
)

// everies are those that may be, and may not be, and what is about those numbers of bytes.
func everies(sizes ...int) []int {
	l := []int{math.MinInt, -4096, -1, 0, 1, 2, 17, 100, 1000, topSize - 1, topSize, topSize + 1, 2 * topSize, math.MaxInt}
	for _, n := range sizes {
		l = append(l, n-1, n, n+1)
	}
	return l
}

// some are of a list all, or so many of it, with the first and the last one.
func some[T any](l []T, many int) []T {
	if len(l) <= many {
		return l
	}
	var x []T
	for i := range many {
		x = append(x, l[i*(len(l)-1)/(many-1)])
	}
	return x
}

// indexes are indexes of a segment of these batches: all that there are of few batches; of many the greatest, the smallest, and others between.
func indexes(l []api.Batch) [][]api.Ent {
	all := wordsEntries(l)
	if len(all) == 0 {
		return [][]api.Ent{nil, {}}
	}
	var x [][]api.Ent
	pick := func(has func(i int) bool) {
		own := []api.Ent{all[0]}
		for i := 1; i < len(all); i++ {
			if has(i) {
				own = append(own, all[i])
			}
		}
		x = append(x, own)
	}
	if len(all) <= 8 {
		for bits := range 1 << (len(all) - 1) {
			pick(func(i int) bool { return bits>>(i-1)&1 == 1 })
		}
		return x
	}
	r := rand.New(rand.NewSource(8))
	pick(func(int) bool { return true })
	pick(func(int) bool { return false })
	pick(func(i int) bool { return i == len(all)-1 })
	pick(func(i int) bool { return i < len(all)-1 })
	for _, n := range []int{2, 3, 10} {
		pick(func(i int) bool { return i%n == 0 })
		pick(func(int) bool { return r.Intn(n) == 0 })
	}
	return x
}

// offsAbout are offsets at, below, above and between what batches have.
func offsAbout(s shape) []int {
	l := []int{math.MinInt, -1, 0, 1, s.base - 1, s.base, s.base + 1, top - 1, top, top + 1, math.MaxInt}
	for _, b := range some(s.l, 12) {
		l = append(l, b.Base-1, b.Base, b.Base+1, b.Last-1, b.Last, b.Last+1, b.Last+2)
	}
	slices.Sort(l)
	return slices.Compact(l)
}

// stampsAbout are stamps at, below, above and between what batches have.
func stampsAbout(s shape) []int {
	l := []int{math.MinInt, -2, -1, 0, 1, top - 1, top, top + 1, math.MaxInt}
	for _, b := range some(s.l, 12) {
		for _, r := range b.Recs {
			l = append(l, r.Stamp-1, r.Stamp, r.Stamp+1)
		}
	}
	slices.Sort(l)
	return slices.Compact(l)
}

func TestP8_1MakeExample(t *testing.T) {
	s := example().seg()
	behind := len(bytesOf(stamped(0, 5, 7)))
	want := []api.Ent{{Off: 0, Pos: 0, Stamp: 7}, {Off: 2, Pos: behind, Stamp: 7}}
	l, e := index.Make(s, 1)
	if e != api.OK || !slices.Equal(l, want) {
		t.Errorf("got %v, %d, want %v", l, e, want)
	}
	if e := index.Check(s, want); e != api.OK {
		t.Errorf("Check tells %d", e)
	}
	if off, e := index.Since(s, want, 6); off != 1 || e != api.OK {
		t.Errorf("Since 6 tells %d, %d", off, e)
	}
	if off, e := index.Since(s, want, 8); off != 0 || e != api.ErrRange {
		t.Errorf("Since 8 tells %d, %d", off, e)
	}
	if b, e := index.Find(s, want, 2); !alike(b, stamped(2, 6)) || e != api.OK {
		t.Errorf("Find 2 tells %+v, %d", b, e)
	}
}

func TestP8_1Make(t *testing.T) {
	told := map[api.Errno]int{}
	for _, x := range shapes() {
		var sizes []int
		for _, y := range some(wordsEntries(x.l), 8) {
			sizes = append(sizes, y.Pos)
		}
		for _, b := range some(x.l, 4) {
			sizes = append(sizes, len(bytesOf(b)), 2*len(bytesOf(b)), 3*len(bytesOf(b)))
		}
		for _, every := range everies(sizes...) {
			e := makes(t, x.name, x.seg(), every)
			if (e == api.OK) != (every >= 1 && every <= 4096) {
				t.Fatalf("%s: the test's words tell %d of every %d", x.name, e, every)
			}
			told[e]++
		}
	}
	if told[api.OK] < 500 || told[api.ErrArg] < 200 {
		t.Errorf("that looks at too little: %v", told)
	}
}

// growing is batches each of which has a byte more than the one ahead; the first one has 24.
func growing() []api.Batch {
	l := row(10, 1, 2, 3, 4, 5, 6)
	for i := range l {
		l[i].Recs[0].Val = "vvvvvv"[:i+1]
		l[i].Recs[0].Key = ""
	}
	return l
}

// What begins just as many bytes behind the entry that was made last as every says has one; what begins a byte ahead of that has none.
func TestP8_1MakeByEvery(t *testing.T) {
	l := growing()
	s, all := segOf(10, l), wordsEntries(l)
	at := func(i int) int { return all[i].Pos }
	if at(1) != 24 || at(2) != 24+25 || at(5) != 24+25+26+27+28 {
		t.Fatalf("the test's batches begin at %v", all)
	}
	for _, x := range []struct {
		every int
		want  []int
	}{
		{1, []int{0, 1, 2, 3, 4, 5}},
		{23, []int{0, 1, 2, 3, 4, 5}},
		{24, []int{0, 1, 2, 3, 4, 5}},
		{25, []int{0, 2, 3, 4, 5}},
		{26, []int{0, 2, 3, 4, 5}},
		{27, []int{0, 2, 4, 5}},
		{28, []int{0, 2, 4, 5}},
		{29, []int{0, 2, 4}},
		{48, []int{0, 2, 4}},
		{49, []int{0, 2, 4}},
		{50, []int{0, 3, 5}},
		{54, []int{0, 3, 5}},
		{55, []int{0, 3, 5}},
		{56, []int{0, 3}},
		{75, []int{0, 3}},
		{76, []int{0, 4}},
		{101, []int{0, 4}},
		{102, []int{0, 4}},
		{103, []int{0, 5}},
		{129, []int{0, 5}},
		{130, []int{0, 5}},
		{131, []int{0}},
		{4096, []int{0}},
	} {
		var want []api.Ent
		for _, i := range x.want {
			want = append(want, all[i])
		}
		if l, e := index.Make(s, x.every); e != api.OK || !slices.Equal(l, want) {
			t.Errorf("every %d: got %v, %d, want %v", x.every, l, e, want)
		}
	}
	for _, every := range []int{math.MinInt, -24, -1, 0, 4097, math.MaxInt} {
		if l, e := index.Make(s, every); e != api.ErrArg || len(l) != 0 {
			t.Errorf("every %d: got %v, %d", every, l, e)
		}
	}
}

// An entry's stamp is the greatest so far, of whatever record.
func TestP8_1Stamps(t *testing.T) {
	for _, x := range []struct {
		name string
		l    []api.Batch
		want []int
	}{
		{"rise", row(0, 1, 2, 3), []int{1, 2, 3}},
		{"fall", row(0, 3, 2, 1), []int{3, 3, 3}},
		{"the same", row(0, 2, 2, 2), []int{2, 2, 2}},
		{"rise and fall", row(0, 4, 2, 7, 7, 1, 9), []int{4, 4, 7, 7, 7, 9}},
		{"only 0", row(0, 0, 0), []int{0, 0}},
		{"the top", row(0, 0, top, 1), []int{0, top, top}},
		{"the greatest is the first, the last, and within", []api.Batch{stamped(0, 5, 1, 2), stamped(3, 1, 2, 6), stamped(6, 1, 8, 2)}, []int{5, 6, 8}},
		{"without records ahead", []api.Batch{cleaned(0, 2), mark(2, api.Commit), stamped(3, 0), cleaned(4, 1)}, []int{-1, -1, 0, 0}},
		{"without records between", []api.Batch{stamped(0, 3), cleaned(1, 2), mark(3, api.Abort), stamped(4, 2), cleaned(5, 1)}, []int{3, 3, 3, 3, 3}},
		{"without records alone", []api.Batch{cleaned(0, 16), mark(16, api.Abort)}, []int{-1, -1}},
		{"records are missing", []api.Batch{stamped(0, -1, 4, -1), stamped(3, -1, -1), stamped(5, 3, -1)}, []int{4, 4, 4}},
	} {
		l, e := index.Make(segOf(0, x.l), 1)
		var got []int
		for i, y := range l {
			got = append(got, y.Stamp)
			if y.Off != x.l[i].Base || y.Pos != len(bytesOf(x.l[:i]...)) {
				t.Errorf("%s: entry %d is %v", x.name, i, y)
			}
		}
		if e != api.OK || !slices.Equal(got, x.want) {
			t.Errorf("%s: got %v, %d, want %v", x.name, got, e, x.want)
		}
	}
}

func TestP8_1SegmentsByBaseAndSize(t *testing.T) {
	four := func(s api.Seg, l []api.Ent) []api.Errno {
		_, a := index.Make(s, 1)
		_, b := index.Find(s, l, 0)
		_, c := index.Since(s, l, 0)
		return []api.Errno{a, index.Check(s, l), b, c}
	}
	ok, args := api.OK, []api.Errno{api.ErrArg, api.ErrArg, api.ErrArg, api.ErrArg}
	for base, want := range map[int][]api.Errno{math.MinInt: args, -1: args, 0: {ok, ok, api.ErrRange, api.ErrRange}, top: {ok, ok, api.ErrRange, api.ErrRange}, top + 1: args, math.MaxInt: args} {
		if got := four(api.Seg{Base: base}, nil); !slices.Equal(got, want) {
			t.Errorf("no batch, Base %d: got %v, want %v", base, got, want)
		}
	}
	l := []api.Batch{stamped(top, 3)}
	for base, want := range map[int][]api.Errno{math.MinInt: args, -1: args, 0: {ok, ok, ok, ok}, top: {ok, ok, ok, ok}, top + 1: args, math.MaxInt: args} {
		if got := four(segOf(base, l), wordsEntries(l)); !slices.Equal(got, want) {
			t.Errorf("a batch, Base %d: got %v, want %v", base, got, want)
		}
	}
	for many, want := range map[int][]api.Errno{topSize - 1: {ok, ok, ok, ok}, topSize: {ok, ok, ok, ok}, topSize + 1: args, topSize + 2: args} {
		s := segOf(0, full(many))
		if _, good := seg.Scan(s); good != many || len(s.Bytes) != many {
			t.Fatalf("the test's segment has %d bytes, %d of them batches', want %d", len(s.Bytes), good, many)
		}
		if got := four(s, wordsEntries(full(many))); !slices.Equal(got, want) {
			t.Errorf("%d bytes: got %v, want %v", many, got, want)
		}
	}
}

// anyLists are entries that are none, an index of what a segment has, and others.
func anyLists(s api.Seg) [][]api.Ent {
	batches, _ := seg.Scan(s)
	all := wordsEntries(batches)
	return [][]api.Ent{nil, {{}}, {{Stamp: -1}}, all, all[:min(1, len(all))], all[min(1, len(all)):], {{Off: s.Base}}}
}

// Of a segment that is not right nothing is told but ErrArg, whatever else is right or wrong.
func TestP8_1SegmentsThatAreNotRight(t *testing.T) {
	for _, x := range odds() {
		if wordsRight(x.s) {
			t.Fatalf("%s: the test's segment is right", x.name)
		}
		for _, every := range everies() {
			if e := makes(t, x.name, x.s, every); e != api.ErrArg {
				t.Errorf("%s: the test's words tell %d", x.name, e)
			}
		}
		for _, l := range anyLists(x.s) {
			checks(t, x.name, x.s, l)
			for _, n := range []int{math.MinInt, -1, 0, 1, 5, 8, top, top + 1, math.MaxInt} {
				e, f := finds(t, x.name, x.s, l, n), sinces(t, x.name, x.s, l, n)
				if e != api.ErrArg || f != api.ErrArg {
					t.Errorf("%s: the test's words tell %d, %d", x.name, e, f)
				}
			}
		}
	}
}

func TestP8_1CheckOfIndexes(t *testing.T) {
	told := 0
	for _, x := range shapes() {
		for _, l := range indexes(x.l) {
			if e := checks(t, x.name, x.seg(), l); e != api.OK {
				t.Errorf("%s: the test's words tell %d of %s", x.name, e, briefly(l))
			}
			told++
		}
		for _, every := range []int{1, 20, 100, 1000, topSize} {
			l, e := index.Make(x.seg(), every)
			if f := index.Check(x.seg(), l); e != api.OK || f != api.OK {
				t.Errorf("%s: every %d: Make tells %d, and Check %d", x.name, every, e, f)
			}
		}
	}
	if told < 500 {
		t.Errorf("that looks at too little: %d", told)
	}
}

// wrongs are entries that are made of an index of some batches, and are none, each with its name.
func wrongs(l []api.Ent) map[string][]api.Ent {
	x := map[string][]api.Ent{}
	if len(l) == 0 {
		x["one where there is no batch"] = []api.Ent{{}}
		x["one where there is no batch, with the stamp -1"] = []api.Ent{{Stamp: -1}}
		return x
	}
	x["none"] = nil
	x["the first batch's is missing"] = l[1:]
	for i := range l {
		x[fmt.Sprint(i, " twice")] = slices.Insert(slices.Clone(l), i, l[i])
		x[fmt.Sprint(i, " again at the end")] = append(slices.Clone(l), l[i])
		for k := range i {
			y := slices.Clone(l)
			y[i], y[k] = y[k], y[i]
			x[fmt.Sprint(i, " and ", k, " in each other's place")] = y
		}
		for name, y := range others(l[i]) {
			z := slices.Clone(l)
			z[i] = y
			x[fmt.Sprint(i, " ", name)] = z
			x[fmt.Sprint(i, " ", name, ", ahead of it")] = slices.Insert(slices.Clone(l), i, y)
			x[fmt.Sprint(i, " ", name, ", behind it")] = slices.Insert(slices.Clone(l), i+1, y)
		}
	}
	return x
}

// others are entries that are as this one but for a number.
func others(x api.Ent) map[string]api.Ent {
	l := map[string]api.Ent{}
	for _, by := range []int{1, -1, 2, 17, -17, 1 << 20, 1 << 32, 1 << 40, math.MinInt} {
		l[fmt.Sprint("Off by ", by)] = api.Ent{Off: x.Off + by, Pos: x.Pos, Stamp: x.Stamp}
		l[fmt.Sprint("Pos by ", by)] = api.Ent{Off: x.Off, Pos: x.Pos + by, Stamp: x.Stamp}
		l[fmt.Sprint("Stamp by ", by)] = api.Ent{Off: x.Off, Pos: x.Pos, Stamp: x.Stamp + by}
	}
	return l
}

func TestP8_1CheckOfWhatIsNoIndex(t *testing.T) {
	told := 0
	for _, x := range small() {
		s := x.seg()
		lists := indexes(x.l)
		for _, l := range [][]api.Ent{lists[0], lists[len(lists)/2], lists[len(lists)-1]} {
			for name, y := range wrongs(l) {
				name = x.name + ", " + name
				if e := checks(t, name, s, y); e != api.ErrArg {
					t.Errorf("%s: the test's words tell %d of %s", name, e, briefly(y))
				}
				if e, f := finds(t, name, s, y, x.base), sinces(t, name, s, y, 0); e != api.ErrArg || f != api.ErrArg {
					t.Errorf("%s: the test's words tell %d, %d of %s", name, e, f, briefly(y))
				}
				told++
			}
		}
		end := api.Ent{Off: seg.End(s), Pos: len(s.Bytes), Stamp: wordsStamp(x.l)}
		if e := checks(t, x.name+", one too many behind the last batch", s, append(wordsEntries(x.l), end)); e != api.ErrArg {
			t.Errorf("%s: the test's words tell %d of one too many", x.name, e)
		}
	}
	if told < 5000 {
		t.Errorf("that looks at too little: %d", told)
	}
}

// wordsStamp is the greatest stamp of all; -1, if there is none.
func wordsStamp(l []api.Batch) int {
	if len(l) == 0 {
		return -1
	}
	return wordsEntries(l)[len(l)-1].Stamp
}

// An index of one segment is none of another one, though that begins alike.
func TestP8_1CheckOfAnotherSegmentsIndex(t *testing.T) {
	long, short := segOf(5, row(5, 1, 2, 3)), segOf(5, row(5, 1, 2))
	all := wordsEntries(row(5, 1, 2, 3))
	for i, x := range []struct {
		s api.Seg
		l []api.Ent
		e api.Errno
	}{
		{long, all, api.OK},
		{short, all, api.ErrArg},
		{short, all[:2], api.OK},
		{short, []api.Ent{all[0], all[2]}, api.ErrArg},
		{long, all[:2], api.OK},
		{segOf(5, row(5, 1, 1, 3)), all, api.ErrArg},
		{segOf(5, row(5, 1, 1, 3)), []api.Ent{all[0], all[2]}, api.OK},
		{segOf(4, row(5, 1, 2, 3)), all, api.OK},
		{segOf(5, row(6, 1, 2, 3)), all, api.ErrArg},
		{api.Seg{Base: 5}, all, api.ErrArg},
		{api.Seg{Base: 5}, nil, api.OK},
		{long, make([]api.Ent, 1<<20), api.ErrArg},
		{api.Seg{Base: 5}, make([]api.Ent, 1<<20), api.ErrArg},
	} {
		if e := checks(t, fmt.Sprint(i), x.s, x.l); e != x.e {
			t.Errorf("%d: the test's words tell %d, want %d", i, e, x.e)
		}
	}
}

// Lists of entries of a segment's batches, in whatever order, and of others.
func TestP8_1CheckOfAnyEntries(t *testing.T) {
	r := rand.New(rand.NewSource(81))
	told := map[api.Errno]int{}
	l := []api.Batch{stamped(5, 4), cleaned(6, 2), stamped(8, 3, 9)}
	s, all := segOf(5, l), wordsEntries(l)
	all = append(all, api.Ent{Off: 5, Pos: 0, Stamp: 3})
	var lists func(head []api.Ent)
	lists = func(head []api.Ent) {
		told[checks(t, "three batches", s, head)]++
		if len(head) == 5 {
			return
		}
		for _, x := range all {
			lists(append(slices.Clone(head), x))
		}
	}
	lists(nil)
	if told[api.OK] != 4 {
		t.Errorf("three batches have %d indexes, want 4", told[api.OK])
	}
	few := small()
	for round := range 4000 {
		x := few[r.Intn(len(few))]
		all := wordsEntries(x.l)
		var l []api.Ent
		for i, y := range all {
			if i == 0 && r.Intn(8) > 0 || r.Intn(2) == 0 {
				l = append(l, y)
			}
		}
		if len(l) > 1 && r.Intn(4) == 0 {
			i, k := r.Intn(len(l)), r.Intn(len(l))
			l[i], l[k] = l[k], l[i]
		}
		told[checks(t, fmt.Sprint("round ", round), x.seg(), l)]++
	}
	if told[api.OK] < 1000 || told[api.ErrArg] < 1000 {
		t.Errorf("that looks at too little: %v", told)
	}
}

func TestP8_2FloorAndWhenByHand(t *testing.T) {
	rising := []api.Ent{{Off: 5, Pos: 10, Stamp: -1}, {Off: 8, Pos: 20, Stamp: 4}, {Off: 9, Pos: 30, Stamp: 4}, {Off: 20, Pos: 40, Stamp: 9}}
	odd := []api.Ent{{Off: 20, Pos: 4, Stamp: 9}, {Off: 3, Pos: 70, Stamp: 7}, {Off: 9, Pos: -5, Stamp: 0}, {Off: 3, Pos: 6, Stamp: 3}, {Off: 12, Pos: 1, Stamp: 8}}
	for _, x := range []struct {
		name  string
		l     []api.Ent
		floor map[int]int
		when  map[int]int
	}{
		{name: "none", floor: map[int]int{math.MinInt: 0, 0: 0, 7: 0, math.MaxInt: 0}, when: map[int]int{math.MinInt: 0, 0: 0, 7: 0, math.MaxInt: 0}},
		{name: "one", l: rising[1:2], floor: map[int]int{math.MinInt: 0, 7: 0, 8: 20, 9: 20, math.MaxInt: 20}, when: map[int]int{math.MinInt: 0, 3: 0, 4: 0, 5: 20, math.MaxInt: 20}},
		{name: "rising", l: rising,
			floor: map[int]int{math.MinInt: 0, -1: 0, 0: 0, 4: 0, 5: 10, 7: 10, 8: 20, 9: 30, 10: 30, 19: 30, 20: 40, 21: 40, math.MaxInt: 40},
			when:  map[int]int{math.MinInt: 0, -1: 0, 0: 10, 4: 10, 5: 30, 8: 30, 9: 30, 10: 40, math.MaxInt: 40}},
		{name: "in whatever order", l: odd,
			floor: map[int]int{2: 0, 3: 6, 8: 6, 9: 6, 11: 6, 12: 1, 20: 1, math.MaxInt: 1},
			when:  map[int]int{0: 0, 1: -5, 3: -5, 4: 6, 7: 6, 8: 6, 9: 1, 10: 1, math.MaxInt: 1}},
		{name: "the first alone", l: odd[:4], floor: map[int]int{2: 0, 3: 6}, when: map[int]int{0: 0, 3: -5, 4: 6}},
		{name: "out of an int's bounds", l: []api.Ent{{Off: math.MinInt, Pos: math.MinInt, Stamp: math.MinInt}, {Off: math.MaxInt, Pos: math.MaxInt, Stamp: math.MaxInt}},
			floor: map[int]int{math.MinInt: math.MinInt, 0: math.MinInt, math.MaxInt - 1: math.MinInt, math.MaxInt: math.MaxInt},
			when:  map[int]int{math.MinInt: 0, math.MinInt + 1: math.MinInt, 0: math.MinInt, math.MaxInt: math.MinInt}},
	} {
		for n, want := range x.floor {
			if got := index.Floor(x.l, n); got != want {
				t.Errorf("%s: Floor of %d tells %d, want %d", x.name, n, got, want)
			}
		}
		for n, want := range x.when {
			if got := index.When(x.l, n); got != want {
				t.Errorf("%s: When of %d tells %d, want %d", x.name, n, got, want)
			}
		}
	}
}

// All lists of up to six entries of three offsets, or stamps.
func TestP8_2FloorAndWhenOfFew(t *testing.T) {
	told := 0
	for many := range 7 {
		all := 1
		for range many {
			all *= 3
		}
		for no := range all {
			var l []api.Ent
			for i, rest := 0, no; i < many; i, rest = i+1, rest/3 {
				l = append(l, api.Ent{Off: 2 * (rest % 3), Pos: 100 + i, Stamp: 2 * ((rest + i) % 3)})
			}
			for n := -1; n <= 5; n++ {
				places(t, "few", l, n)
				told++
			}
		}
	}
	if told != 7*1093 {
		t.Errorf("that looks at %d", told)
	}
}

func TestP8_2FloorAndWhenOfAny(t *testing.T) {
	r := rand.New(rand.NewSource(82))
	for round := range 3000 {
		var l []api.Ent
		span := 1 + r.Intn(60)
		for range r.Intn(50) {
			l = append(l, api.Ent{Off: r.Intn(span) - span/3, Pos: r.Intn(9000) - 1000, Stamp: r.Intn(span) - span/3})
		}
		switch round % 3 {
		case 1:
			slices.SortFunc(l, func(a, b api.Ent) int { return a.Off - b.Off })
		case 2:
			slices.SortFunc(l, func(a, b api.Ent) int { return b.Stamp - a.Stamp })
		}
		for n := -span/3 - 1; n <= span; n += 1 + r.Intn(3) {
			places(t, fmt.Sprint("round ", round), l, n)
		}
	}
}

// The one that is so may stand anywhere among very many that are not.
func TestP8_2FloorAndWhenOfVeryMany(t *testing.T) {
	const many = 1 << 20
	l := make([]api.Ent, many)
	for i := range l {
		l[i] = api.Ent{Off: 9, Pos: i + 1, Stamp: 9}
	}
	for _, at := range []int{0, 1, 2, many/2 - 1, many / 2, many/2 + 1, 700001, many - 2, many - 1} {
		l[at].Off, l[at].Stamp = 8, 8
		if n := index.Floor(l, 8); n != at+1 {
			t.Errorf("Floor tells %d, want %d", n, at+1)
		}
		if n := index.When(l, 9); n != at+1 {
			t.Errorf("When tells %d, want %d", n, at+1)
		}
		l[at].Off, l[at].Stamp = 9, 9
	}
	if a, b, c, d := index.Floor(l, 8), index.When(l, 9), index.Floor(l, 9), index.When(l, 10); a != 0 || b != 0 || c != many || d != many {
		t.Errorf("got %d, %d, %d, %d", a, b, c, d)
	}
}

func TestP8_3FindByHand(t *testing.T) {
	l := []api.Batch{stamped(5, 4, 7, 1), mark(8, api.Commit), cleaned(12, 3), stamped(20, 6)}
	s := segOf(3, l)
	for off, at := range map[int]int{math.MinInt: 0, -1: 0, 0: 0, 3: 0, 4: 0, 5: 0, 7: 0, 8: 1, 9: 2, 11: 2, 12: 2, 13: 2, 14: 2, 15: 3, 19: 3, 20: 3, 21: 4, top: 4, top + 1: 4, math.MaxInt: 4} {
		for _, x := range indexes(l) {
			b, e := index.Find(s, x, off)
			if at == len(l) {
				if e != api.ErrRange || !alike(b, api.Batch{}) {
					t.Errorf("%d by %v: got %+v, %d", off, x, b, e)
				}
			} else if e != api.OK || !alike(b, l[at]) {
				t.Errorf("%d by %v: got %+v, %d, want batch %d", off, x, b, e, at)
			}
		}
	}
}

func TestP8_3SinceByHand(t *testing.T) {
	l := []api.Batch{cleaned(3, 2), stamped(5, 4, 7, 1, 9), mark(9, api.Commit), stamped(12, -1, 8, 11), cleaned(15, 3), stamped(20, 2, 10, 15, 20)}
	s := segOf(3, l)
	for stamp, off := range map[int]int{math.MinInt: 5, -1: 5, 0: 5, 1: 5, 4: 5, 5: 6, 7: 6, 8: 8, 9: 8, 10: 14, 11: 14, 12: 22, 15: 22, 16: 23, 20: 23, 21: -1, top: -1, top + 1: -1, math.MaxInt: -1} {
		want, wantE := off, api.OK
		if off < 0 {
			want, wantE = 0, api.ErrRange
		}
		for _, x := range indexes(l) {
			if off, e := index.Since(s, x, stamp); off != want || e != wantE {
				t.Errorf("%d by %v: got %d, %d, want %d, %d", stamp, x, off, e, want, wantE)
			}
		}
	}
	for _, x := range []shape{{"none", 5, nil}, {"cleaned", 5, []api.Batch{cleaned(5, 3)}}, {"marks", 5, []api.Batch{mark(5, api.Abort), mark(9, api.Commit)}}} {
		for _, stamp := range []int{math.MinInt, -2, -1, 0, 1, math.MaxInt} {
			if off, e := index.Since(x.seg(), wordsEntries(x.l), stamp); off != 0 || e != api.ErrRange {
				t.Errorf("%s, since %d: got %d, %d", x.name, stamp, off, e)
			}
		}
	}
}

// The top is an offset, and a time, as others are.
func TestP8_3AtTheTop(t *testing.T) {
	l := []api.Batch{stamped(top-2, 0, top-1), stamped(top, top)}
	s := segOf(top-2, l)
	for _, x := range indexes(l) {
		if b, e := index.Find(s, x, top); e != api.OK || !alike(b, l[1]) {
			t.Errorf("by %v: Find tells %+v, %d", x, b, e)
		}
		if b, e := index.Find(s, x, top+1); e != api.ErrRange || !alike(b, api.Batch{}) {
			t.Errorf("by %v: Find above the top tells %+v, %d", x, b, e)
		}
		if off, e := index.Since(s, x, top); e != api.OK || off != top {
			t.Errorf("by %v: Since tells %d, %d", x, off, e)
		}
		if off, e := index.Since(s, x, top+1); e != api.ErrRange || off != 0 {
			t.Errorf("by %v: Since above the top tells %d, %d", x, off, e)
		}
	}
}

// Check's error is told ahead of ErrRange.
func TestP8_3FirstErrorByHand(t *testing.T) {
	l := []api.Batch{stamped(5, 4, 7), stamped(7, 3)}
	whole, torn, all := segOf(5, l), segOf(5, l, 0), wordsEntries(l)
	for _, x := range []struct {
		name string
		s    api.Seg
		l    []api.Ent
		n    int
		e    api.Errno
	}{
		{"all is well", whole, all, 7, api.OK},
		{"nothing is there", whole, all, 8, api.ErrRange},
		{"nothing is there in no batch", api.Seg{Base: 5}, nil, 0, api.ErrRange},
		{"not right", torn, all, 7, api.ErrArg},
		{"not right, and nothing is there", torn, all, 8, api.ErrArg},
		{"not right, no index, and nothing is there", torn, all[1:], 8, api.ErrArg},
		{"no index", whole, all[1:], 7, api.ErrArg},
		{"no index, and nothing is there", whole, all[1:], 8, api.ErrArg},
		{"no index, where it is found in the first batch", whole, append(slices.Clone(all), api.Ent{}), 5, api.ErrArg},
		{"no index of no batch, and nothing is there", api.Seg{Base: 5}, all, 8, api.ErrArg},
		{"a Base that may not be, and nothing is there", api.Seg{Base: -1}, nil, 8, api.ErrArg},
	} {
		if e := finds(t, x.name, x.s, x.l, x.n); e != x.e {
			t.Errorf("%s: the test's words tell %d, want %d", x.name, e, x.e)
		}
		if e := sinces(t, x.name, x.s, x.l, x.n); e != x.e {
			t.Errorf("%s: the test's words tell %d, want %d", x.name, e, x.e)
		}
	}
}

func TestP8_3FindAndSince(t *testing.T) {
	found, since := map[api.Errno]int{}, map[api.Errno]int{}
	for _, x := range shapes() {
		all := wordsEntries(x.l)
		for _, l := range [][]api.Ent{all, all[:min(1, len(all))], all[min(1, len(all)):]} {
			for _, off := range offsAbout(x) {
				found[finds(t, x.name, x.seg(), l, off)]++
			}
			for _, stamp := range stampsAbout(x) {
				since[sinces(t, x.name, x.seg(), l, stamp)]++
			}
		}
	}
	for _, e := range []api.Errno{api.OK, api.ErrArg, api.ErrRange} {
		if found[e] < 100 || since[e] < 100 {
			t.Errorf("that looks at too little of error %d: %v, %v", e, found, since)
		}
	}
}

// What is looked for is found by every index in the same way, and stands nowhere ahead of where that says to begin.
func TestP8_4WhateverTheIndexIs(t *testing.T) {
	for _, x := range shapes() {
		s, all := x.seg(), wordsEntries(x.l)
		lists := indexes(x.l)
		for _, off := range offsAbout(x) {
			want, e := wordsFind(s, all, off)
			for _, l := range some(lists, 30) {
				if got, gotE := index.Find(s, l, off); gotE != e || !alike(got, want) {
					t.Errorf("%s: Find of %d by %s tells %+v, %d, want %+v, %d", x.name, off, briefly(l), got, gotE, want, e)
				}
				if at := placeOf(all, want.Base); e == api.OK && index.Floor(l, off) > at {
					t.Errorf("%s: Floor of %d by %s tells %d, but batch %d stands at %d", x.name, off, briefly(l), index.Floor(l, off), want.Base, at)
				}
			}
		}
		for _, stamp := range stampsAbout(x) {
			want, e := wordsSince(s, all, stamp)
			for _, l := range some(lists, 30) {
				if got, gotE := index.Since(s, l, stamp); gotE != e || got != want {
					t.Errorf("%s: Since %d by %s tells %d, %d, want %d, %d", x.name, stamp, briefly(l), got, gotE, want, e)
				}
				if at := placeOf(all, want); e == api.OK && index.When(l, stamp) > at {
					t.Errorf("%s: When of %d by %s tells %d, but record %d stands in the batch at %d", x.name, stamp, briefly(l), index.When(l, stamp), want, at)
				}
			}
		}
	}
}

// placeOf is where the batch of an offset begins.
func placeOf(all []api.Ent, off int) int {
	at := 0
	for _, x := range all {
		if x.Off <= off {
			at = x.Pos
		}
	}
	return at
}

// anySeg is a segment that is right, of some batches of all kinds.
func anySeg(r *rand.Rand) shape {
	x := shape{name: "any", base: []int{0, 5, 5000, top - 400}[r.Intn(4)]}
	at, bytes := x.base+r.Intn(3), 0
	for range r.Intn(20) {
		var b api.Batch
		switch r.Intn(6) {
		case 0:
			b = mark(at, 1+r.Intn(2))
		case 1:
			b = cleaned(at, 1+r.Intn(4))
		case 2:
			b = written(at, r.Intn(100))
		default:
			var stamps []int
			for range 1 + r.Intn(5) {
				stamps = append(stamps, r.Intn(100)-r.Intn(3)*30)
			}
			b = stamped(at, stamps...)
		}
		if bytes += len(bytesOf(b)); bytes > topSize {
			break
		}
		x.l = append(x.l, b)
		at = b.Last + 1 + max(0, r.Intn(6)-3)
	}
	return x
}

func TestP8_4AnySegmentAnyIndex(t *testing.T) {
	r := rand.New(rand.NewSource(84))
	found, since := map[api.Errno]int{}, map[api.Errno]int{}
	for round := range 400 {
		x := anySeg(r)
		s, name := x.seg(), fmt.Sprint("round ", round)
		every := []int{1, 1 + r.Intn(100), 1 + r.Intn(topSize)}[r.Intn(3)]
		if e := makes(t, name, s, every); e != api.OK {
			t.Fatalf("%s: the test's words tell %d", name, e)
		}
		made, _ := index.Make(s, every)
		lists := append(some(indexes(x.l), 4), made)
		for range 12 {
			l := lists[r.Intn(len(lists))]
			found[finds(t, name, s, l, x.base+r.Intn(seg.End(s)-x.base+3)-1)]++
			since[sinces(t, name, s, l, r.Intn(104)-2)]++
		}
	}
	for _, e := range []api.Errno{api.OK, api.ErrRange} {
		if found[e] < 300 || since[e] < 100 {
			t.Errorf("that looks at too little of error %d: %v, %v", e, found, since)
		}
	}
}

// Entries that are told are nobody else's.
func TestEntriesThatAreToldAreNew(t *testing.T) {
	for _, x := range shapes() {
		s, want := x.seg(), wordsEntries(x.l)
		one, _ := index.Make(s, 1)
		two, _ := index.Make(s, 1)
		clear(s.Bytes)
		clear(one[:cap(one)])
		if !slices.Equal(two, want) {
			t.Errorf("%s: once the bytes and another answer are others, %s are told", x.name, briefly(two))
		}
	}
}

// A batch that is told stays as it is when the bytes that it was read from do not, nor does it hang on another answer.
func TestBatchesThatAreToldAreNew(t *testing.T) {
	for _, x := range shapes() {
		s, all := x.seg(), wordsEntries(x.l)
		for i, b := range some(x.l, 20) {
			one, e := index.Find(s, all, b.Last)
			two, f := index.Find(s, all, b.Base)
			if e != api.OK || f != api.OK {
				t.Fatalf("%s: got %d, %d", x.name, e, f)
			}
			was := slices.Clone(s.Bytes)
			clear(s.Bytes)
			clear(one.Recs[:cap(one.Recs)])
			if !alike(two, b) {
				t.Errorf("%s: once the bytes and another answer are others, %+v is told of batch %d", x.name, two, i)
			}
			copy(s.Bytes, was)
		}
	}
}

// A call tells the same, whatever was asked ahead of it.
func TestNothingIsKept(t *testing.T) {
	for _, two := range small() {
		for _, x := range []shape{example(), two, example()} {
			makes(t, x.name, x.seg(), 1)
			for _, l := range anyLists(x.seg()) {
				checks(t, x.name, x.seg(), l)
				finds(t, x.name, x.seg(), l, x.base+3)
				sinces(t, x.name, x.seg(), l, 6)
			}
		}
	}
}
