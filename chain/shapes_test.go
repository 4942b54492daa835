package chain_test

import (
	"bytes"
	"fmt"
	"math"
	"slices"
	"strings"

	"watermeet/api"
	"watermeet/batch"
	"watermeet/seg"
)

// data is a batch of so many offsets, with a record each.
func data(base, many int) api.Batch {
	b := api.Batch{Base: base, Last: base + many - 1, From: base / 2, Pid: -1}
	for i := range many {
		b.Recs = append(b.Recs, api.Rec{Off: base + i, Key: "k", Val: "v", Stamp: i})
	}
	return b
}

// cleaned is a batch of so many offsets that are without records.
func cleaned(base, many int) api.Batch {
	return api.Batch{Base: base, Last: base + many - 1, Pid: -1}
}

// mark is a batch that ends a transaction.
func mark(base, ctl int) api.Batch {
	return api.Batch{Base: base, Last: base, From: base, Epoch: 3, Pid: 2, Gen: 1, Seq: 4, Txn: true, Ctl: ctl}
}

// written is a batch of a producer's, of five offsets, in a transaction, without some of its records.
func written(base int) api.Batch {
	return api.Batch{Base: base, Last: base + 4, From: base/3 + 100, Epoch: 2, Pid: 9, Gen: 1, Seq: 7, Txn: true,
		Recs: []api.Rec{{Off: base + 1, Key: "\x00\xff", Val: "é\n", Stamp: top}, {Off: base + 3, Key: "gone", Dead: true, Stamp: 5}}}
}

// sized is a batch that has just so many bytes, from some 30 to 2048, and as few offsets as these take; wide is such a one of so many offsets.
func sized(base, many int) api.Batch {
	for n := 1; n <= 16; n++ {
		if b, ok := wide(base, n, many); ok {
			return b
		}
	}
	panic(fmt.Sprintf("the test can't make a batch of %d bytes", many))
}

func wide(base, offs, many int) (b api.Batch, ok bool) {
	b = api.Batch{Base: base, Last: base + offs - 1, From: base, Pid: -1}
	for i := range offs {
		b.Recs = append(b.Recs, api.Rec{Off: base + i})
	}
	rest := many - batch.Size(b)
	for i := range b.Recs {
		n := min(max(rest, 0), 63)
		m := min(max(rest-n, 0), 63)
		b.Recs[i].Val, b.Recs[i].Key = strings.Repeat("v", n), strings.Repeat("k", m)
		rest -= n + m
	}
	return b, batch.Size(b) == many
}

// tooLong is a batch that has form, and too many bytes.
func tooLong(base int) api.Batch {
	b := data(base, 16)
	for i := range b.Recs {
		b.Recs[i].Key, b.Recs[i].Val = strings.Repeat("x", 64), strings.Repeat("y", 64)
	}
	return b
}

// shape is a log that may be.
type shape struct {
	name string
	l    api.Log
}

// single are so many segments of one short batch each, with a gap behind each of them.
func single(many int) []api.Seg {
	var l []api.Seg
	for i := range many {
		l = append(l, segOf(10+3*i, cleaned(10+3*i, 1+i%3)))
	}
	return l
}

// triple are segments that end at 14, 19 and 22, with two batches each but the last one.
func triple() []api.Seg {
	return []api.Seg{segOf(10, data(10, 3), mark(13, api.Commit)), segOf(14, cleaned(14, 2), data(17, 2)), segOf(20, data(20, 2))}
}

func shapes() []shape {
	var l []shape
	add := func(name string, limit, start int, segs ...api.Seg) {
		l = append(l, shape{name, logOf(limit, start, segs...)})
	}
	add("the chapter's example, begun", 256, 10, segOf(10))
	add("the chapter's example", 256, 10, segOf(10, data(10, 3)))
	add("no bytes, at the beginning", 4096, 0, segOf(0))
	add("no bytes, at the top", 256, top, segOf(top))
	add("no bytes, Start above Base", 300, 20, segOf(10))
	add("no bytes, Start far above Base", 300, top, segOf(0))
	add("no bytes, Start below Base", 300, 5, segOf(10))
	add("no bytes, Base at the top", 300, 5, segOf(top))
	add("one, of ordinary batches", 4096, 0, segOf(0, data(0, 1), data(1, 16), data(17, 2), written(30)))
	add("one, that begins above its Base", 4096, 0, segOf(0, data(40, 2), data(50, 16)))
	add("one, of marks", 256, 3, segOf(3, mark(3, api.Commit), mark(4, api.Abort), mark(9, api.Commit)))
	add("one, of batches without records", 256, 3, segOf(3, cleaned(3, 16), cleaned(19, 1), cleaned(30, 5)))
	add("one of just Limit bytes", 256, 0, segOf(0, sized(0, 156), sized(5, 100)))
	add("one of just Limit bytes, as many as may be", 4096, 0, segOf(0, sized(0, 2048), sized(16, 2048)))
	add("one of one batch of just Limit bytes", 300, 7, segOf(7, sized(7, 300)))
	add("one up to the top", 4096, 7, segOf(top-20, data(top-20, 3), data(top-4, 4), mark(top, api.Abort)))
	add("one up to one below the top", 4096, 7, segOf(7, data(7, 3), data(top-4, 4)))
	add("three", 256, 10, triple()...)
	add("three that might have been one", 4096, 10, triple()...)
	add("three of just Limit bytes each", 256, 0, segOf(0, sized(0, 256)), segOf(10, sized(10, 156), sized(15, 100)), segOf(20, sized(30, 256)))
	add("with gaps between, and below", 256, 10, segOf(10, data(15, 2), data(20, 2)), segOf(30, data(35, 1)), segOf(37, data(50, 3)))
	add("one behind the other, a batch each", 256, 4, segOf(4, data(4, 1)), segOf(5, mark(5, api.Commit)), segOf(6, cleaned(6, 2)), segOf(8, data(8, 2)))
	add("the last one without bytes", 256, 4, segOf(4, data(4, 1)), segOf(5))
	add("the last one without bytes, and above the end", 256, 4, segOf(4, data(4, 1)), segOf(15))
	add("the first one without bytes", 256, 4, segOf(4), segOf(6, data(6, 1), data(7, 1)))
	add("closed ones without bytes", 256, 4, segOf(4, data(4, 3)), segOf(7), segOf(8), segOf(10, data(12, 1)), segOf(13), segOf(14, data(14, 2)))
	add("all without bytes", 256, 4, segOf(4), segOf(5), segOf(9), segOf(20))
	add("all without bytes, Start above all", 256, 30, segOf(4), segOf(5), segOf(9), segOf(20))
	add("all without bytes, Start below all", 256, 1, segOf(4), segOf(5), segOf(9), segOf(20))
	add("two up to the top", 256, 9, segOf(9, data(9, 2)), segOf(top, mark(top, api.Commit)))
	add("two, the last one at the top, without bytes", 256, 9, segOf(9, data(9, 2)), segOf(top))
	add("two, the first one up to below the top", 256, 9, segOf(9, data(9, 2), data(top-1, 1)), segOf(top, data(top, 1)))
	for _, start := range []int{0, 9, 11, 12, 13, 14, 15, 16, 17, 18, 19, 20, 21, 22, 23, 90, top} {
		add(fmt.Sprint("three, Start ", start), 256, start, triple()...)
	}
	add("as many as may be", 256, 10, single(mostSegs)...)
	add("as many as may be, Start among them", 4096, 500, single(mostSegs)...)
	return l
}

// small are those of few segments, of few bytes.
func small() []shape {
	return slices.DeleteFunc(shapes(), func(x shape) bool { return len(x.l.Segs) > 8 || sizeOf(x.l) > 1500 })
}

// odd is a log that may not be, and what Check tells of it.
type odd struct {
	name string
	l    api.Log
	e    api.Errno
}

func odds() []odd {
	var l []odd
	add := func(name string, e api.Errno, limit, start int, segs ...api.Seg) {
		l = append(l, odd{name, logOf(limit, start, segs...), e})
	}
	for _, limit := range []int{math.MinInt, -256, -1, 0, 1, 255, 4097, 8192, math.MaxInt} {
		add(fmt.Sprint("Limit ", limit), api.ErrArg, limit, 10, triple()...)
		add(fmt.Sprint("Limit ", limit, ", without bytes"), api.ErrArg, limit, 10, segOf(10))
	}
	for _, start := range []int{math.MinInt, -1, top + 1, math.MaxInt} {
		add(fmt.Sprint("Start ", start), api.ErrArg, 256, start, triple()...)
		add(fmt.Sprint("Start ", start, ", without bytes"), api.ErrArg, 256, start, segOf(10))
	}
	for _, base := range []int{math.MinInt, -1, top + 1, math.MaxInt} {
		add(fmt.Sprint("a Base of ", base), api.ErrArg, 256, 10, segOf(base))
		add(fmt.Sprint("a last Base of ", base), api.ErrArg, 256, 10, segOf(10, data(10, 3)), segOf(base))
		add(fmt.Sprint("a Base of ", base, " between"), api.ErrArg, 256, 10, segOf(10, data(10, 3)), segOf(base), segOf(20))
		add(fmt.Sprint("a first Base of ", base), api.ErrArg, 256, 10, segOf(base), segOf(20, data(20, 3)))
		add(fmt.Sprint("a first Base of ", base, ", and a batch"), api.ErrArg, 256, 10, segOf(base, data(10, 3)), segOf(20))
	}
	add("no segment", api.ErrArg, 256, 10)
	add("nothing at all", api.ErrArg, 0, 0)
	for n := range 3 {
		for name, s := range unwhole(triple()[n]) {
			segs := triple()
			segs[n] = s
			add(fmt.Sprint("segment ", n, " with ", name), api.ErrArg, 4096, 10, segs...)
		}
		segs := triple()
		segs[n].Bytes = segs[n].Bytes[:len(segs[n].Bytes)-1]
		add(fmt.Sprint("segment ", n, " without its last byte"), api.ErrArg, 256, 10, segs...)
		segs = triple()
		segs[n] = segOf(segs[n].Base, sized(segs[n].Base, 257))
		add(fmt.Sprint("segment ", n, " with one more than Limit bytes"), api.ErrArg, 256, 10, segs...)
		segs = triple()
		segs[n].Bytes = make([]byte, 1<<16)
		add(fmt.Sprint("segment ", n, " with very many bytes"), api.ErrArg, 4096, 10, segs...)
	}
	add("4097 bytes", api.ErrArg, 4096, 0, segOf(0, sized(0, 2048), sized(16, 1949), sized(40, 100)))
	add("a Base twice", api.ErrArg, 256, 10, segOf(10), segOf(10))
	add("a Base twice, with bytes behind", api.ErrArg, 256, 10, segOf(10), segOf(10, data(10, 3)))
	add("a Base twice, with bytes ahead", api.ErrArg, 256, 10, segOf(10, data(10, 3)), segOf(10))
	add("a Base that falls", api.ErrArg, 256, 10, segOf(10), segOf(9))
	add("a Base that falls, behind others", api.ErrArg, 256, 10, segOf(10), segOf(11), segOf(12), segOf(11))
	add("a Base within the one ahead", api.ErrArg, 256, 10, segOf(10, data(10, 3)), segOf(12))
	add("a Base within the one ahead, but above its batches' Bases", api.ErrArg, 256, 10, segOf(10, data(10, 3), data(20, 3)), segOf(22, data(23, 1)))
	add("a Base within the one ahead of the one ahead", api.ErrArg, 256, 10, segOf(10, data(10, 3)), segOf(11), segOf(13))
	add("segments in the order from the last one", api.ErrArg, 256, 10, triple()[2], triple()[1], triple()[0])
	add("two in each other's place", api.ErrArg, 256, 10, triple()[1], triple()[0], triple()[2])
	return append(l, crowds()...)
}

// crowds are logs of more segments than may be.
func crowds() []odd {
	var l []odd
	add := func(name string, e api.Errno, limit, start int, segs ...api.Seg) {
		l = append(l, odd{name, logOf(limit, start, segs...), e})
	}
	add("257 segments", api.ErrBound, 256, 10, single(257)...)
	add("257 segments, Start above all", api.ErrBound, 256, top, single(257)...)
	add("257 segments without bytes", api.ErrBound, 4096, 0, empty(257)...)
	add("very many segments", api.ErrBound, 4096, 0, empty(1<<12)...)
	add("257 segments, and a Limit that may not be", api.ErrArg, 255, 10, single(257)...)
	add("257 segments, and a Start that may not be", api.ErrArg, 256, -1, single(257)...)
	for _, n := range []int{0, 100, 255, 256} {
		segs := single(257)
		segs[n].Bytes = append(segs[n].Bytes, 0)
		add(fmt.Sprint("257 segments, and number ", n, " is not whole"), api.ErrArg, 256, 10, segs...)
		segs = empty(257)
		segs[n] = segOf(n, sized(n, 257))
		add(fmt.Sprint("257 segments, and number ", n, " has one more than Limit bytes"), api.ErrArg, 256, 10, segs...)
		segs = empty(257)
		segs[max(n, 1)].Base = segs[max(n, 1)-1].Base
		add(fmt.Sprint("257 segments, and number ", n, " has the Base of the one ahead"), api.ErrArg, 256, 10, segs...)
	}
	return l
}

// empty are so many segments without bytes.
func empty(many int) []api.Seg {
	l := make([]api.Seg, many)
	for i := range l {
		l[i].Base = i
	}
	return l
}

// unwhole are segments like that one that are not whole.
func unwhole(s api.Seg) map[string]api.Seg {
	all, _ := seg.Scan(s)
	first := bytesOf(all[0])
	spoilt := bytes.Clone(s.Bytes)
	spoilt[len(spoilt)-6] ^= 1
	l := map[string]api.Seg{
		"a byte behind":                  {Base: s.Base, Bytes: append(bytes.Clone(s.Bytes), 0)},
		"zeros behind":                   {Base: s.Base, Bytes: append(bytes.Clone(s.Bytes), 0, 0, 0, 0)},
		"a byte ahead":                   {Base: s.Base, Bytes: append([]byte{0}, s.Bytes...)},
		"a byte alone":                   {Base: s.Base, Bytes: []byte{0}},
		"the last batch spoilt":          {Base: s.Base, Bytes: spoilt},
		"its first batch twice":          {Base: s.Base, Bytes: append(bytes.Clone(first), first...)},
		"a batch below its Base":         {Base: s.Base, Bytes: append(bytesOf(cleaned(s.Base-1, 1)), s.Bytes...)},
		"half a batch behind":            {Base: s.Base, Bytes: append(bytes.Clone(s.Bytes), bytesOf(data(9000, 2))[:20]...)},
		"its Base above its first batch": {Base: all[0].Base + 1, Bytes: s.Bytes},
	}
	return l
}

// anyLogs are all of these, with their names.
func anyLogs() map[string]api.Log {
	l := map[string]api.Log{}
	for _, x := range shapes() {
		l[x.name] = x.l
	}
	for _, x := range odds() {
		l["odd: "+x.name] = x.l
	}
	return l
}

// some are of a list all, or so many of it, with the first and the last one.
func some[T any](l []T, many int) []T {
	if len(l) <= many {
		return l
	}
	var x []T
	for i := range many {
		x = append(x, l[i*(len(l)-1)/(many-1)])
	}
	return x
}

// offsAbout are offsets at, below, above, between and within what a log has.
func offsAbout(l api.Log) []int {
	end := wordsEnd(l)
	x := []int{math.MinInt, -1, 0, 1, l.Start - 1, l.Start, l.Start + 1, end - 1, end, end + 1, top - 1, top, top + 1, top + 2, math.MaxInt}
	for _, s := range some(l.Segs, 9) {
		x = append(x, s.Base-1, s.Base, s.Base+1, seg.End(s)-1, seg.End(s), seg.End(s)+1)
		all, _ := seg.Scan(s)
		for _, b := range some(all, 6) {
			x = append(x, b.Base-1, b.Base, b.Base+1, b.Last-1, b.Last, b.Last+1, b.Last+2)
		}
	}
	slices.Sort(x)
	return slices.Compact(x)
}
