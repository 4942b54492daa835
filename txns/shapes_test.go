package txns_test

import (
	"math"
	"math/rand"
	"slices"
	"strings"

	"watermeet/api"
)

// shape is transactions, and what they are.
type shape struct {
	name string
	t    api.Tx
}

// opens are transactions that are open, of pairs of numbers: Pid and First, Pid and First.
func opens(l ...int) []api.Open {
	var x []api.Open
	for i := 0; i < len(l); i += 2 {
		x = append(x, api.Open{Pid: l[i], First: l[i+1]})
	}
	return x
}

// endeds are transactions that have ended, four numbers each: Pid, No, First and Last.
func endeds(l ...int) []api.Gone {
	var x []api.Gone
	for i := 0; i < len(l); i += 4 {
		x = append(x, api.Gone{Pid: l[i], No: l[i+1], First: l[i+2], Last: l[i+3]})
	}
	return x
}

func ofOpen(l ...int) api.Tx { return api.Tx{Open: opens(l...)} }
func ofGone(l ...int) api.Tx { return api.Tx{Gone: endeds(l...)} }
func ofDone(l ...int) api.Tx { return api.Tx{Done: endeds(l...)} }

// three has three that are open, two that were aborted, and two that were committed: the greatest offset in it is 30.
func three() api.Tx {
	return api.Tx{Open: opens(3, 30, 5, 12, 9, 20), Gone: endeds(3, 0, 2, 9, 7, 1, 14, 17), Done: endeds(3, 1, 10, 13, 9, 4, 1, 18)}
}

// many are so many of each, that rise evenly.
func many(n int) api.Tx {
	var t api.Tx
	for i := range n {
		t.Open = append(t.Open, api.Open{Pid: 2*i + 1, First: 7 * ((i * 5) % n)})
		t.Gone = append(t.Gone, api.Gone{Pid: i % 5, No: i, First: 3 * i, Last: 5*i + 1})
		t.Done = append(t.Done, api.Gone{Pid: i % 3, No: i, First: i, Last: 5*i + 2})
	}
	return t
}

// shapes are transactions that may be.
func shapes() []shape {
	return []shape{
		{"nothing", api.Tx{}},
		{"nothing, but lists", api.Tx{Open: []api.Open{}, Gone: []api.Gone{}, Done: []api.Gone{}}},
		{"one open", ofOpen(4, 7)},
		{"one open, at the bottom", ofOpen(0, 0)},
		{"one open, at the top", ofOpen(top, top)},
		{"two open", ofOpen(4, 7, 5, 6)},
		{"two open, from bottom to top", ofOpen(0, top, top, 0)},
		{"two open, with the same First", ofOpen(4, 7, 9, 7)},
		{"three open", ofOpen(4, 7, 5, 9, 11, 2)},
		{"one gone", ofGone(4, 2, 7, 9)},
		{"one gone, at the bottom", ofGone(0, 0, 0, 1)},
		{"one gone, at the top", ofGone(top, topGen, top-1, top)},
		{"one gone, from bottom to top", ofGone(0, topGen, 0, top)},
		{"two gone", ofGone(4, 2, 7, 9, 4, 3, 9, 10)},
		{"two gone, within one another", ofGone(4, 2, 7, 9, 5, 0, 3, 14)},
		{"two gone, one number twice", ofGone(4, 2, 7, 9, 4, 2, 7, 10)},
		{"one done", ofDone(4, 2, 7, 9)},
		{"one done, at the top", ofDone(top, topGen, top-1, top)},
		{"three done", ofDone(9, 0, 0, 1, 4, 2, 0, 9, 1, 8, 0, 10)},
		{"one gone, one done, with the same Last", api.Tx{Gone: endeds(4, 2, 7, 9), Done: endeds(5, 2, 7, 9)}},
		{"one gone and done", api.Tx{Gone: endeds(4, 2, 7, 9), Done: endeds(4, 2, 7, 9)}},
		{"one open, and gone", api.Tx{Open: opens(4, 20), Gone: endeds(4, 2, 7, 9)}},
		{"one open, and done", api.Tx{Open: opens(4, 3), Done: endeds(4, 2, 7, 9)}},
		{"the greatest First is open", three()},
		{"the greatest Last is gone", api.Tx{Open: opens(3, 10, 5, 12), Gone: endeds(3, 0, 2, 9, 7, 1, 14, 30), Done: endeds(3, 1, 10, 13)}},
		{"the greatest Last is done", api.Tx{Open: opens(3, 10, 5, 12), Gone: endeds(3, 0, 2, 9), Done: endeds(3, 1, 10, 13, 7, 1, 14, 30)}},
		{"forty of each", many(40)},
	}
}

// odds are transactions that may not be.
func odds() []shape {
	l := []shape{
		{"an open Pid of -1", ofOpen(-1, 0)},
		{"an open Pid far below 0", ofOpen(math.MinInt, 0)},
		{"an open Pid of 2^40 and 1", ofOpen(top+1, 0)},
		{"an open Pid far above", ofOpen(math.MaxInt, 0)},
		{"an open First of -1", ofOpen(0, -1)},
		{"an open First far below 0", ofOpen(0, math.MinInt)},
		{"an open First of 2^40 and 1", ofOpen(0, top+1)},
		{"an open First far above", ofOpen(0, math.MaxInt)},
		{"open Pids that stand twice", ofOpen(4, 7, 4, 9)},
		{"open ones that stand twice", ofOpen(4, 7, 4, 7)},
		{"open Pids that stand twice, at the top", ofOpen(top, 7, top, 9)},
		{"open Pids that fall", ofOpen(4, 7, 3, 9)},
		{"open Pids that fall, to the first one's and above", ofOpen(2, 7, 5, 9, 3, 11)},
		{"the first open Pid wrong", ofOpen(-1, 7, 5, 9, 6, 11)},
		{"the last open Pid wrong", ofOpen(1, 7, 5, 9, top+1, 11)},
		{"the first open First wrong", ofOpen(1, -1, 5, 9, 6, 11)},
		{"the last open First wrong", ofOpen(1, 7, 5, 9, 6, top+1)},
		{"an open Pid behind one far above", ofOpen(1, 7, math.MaxInt, 9, math.MinInt, 11)},
	}
	for name, x := range map[string][]int{
		"Pid of -1":                       {-1, 0, 0, 9},
		"Pid far below 0":                 {math.MinInt, 0, 0, 9},
		"Pid of 2^40 and 1":               {top + 1, 0, 0, 9},
		"Pid far above":                   {math.MaxInt, 0, 0, 9},
		"No of -1":                        {4, -1, 0, 9},
		"No far below 0":                  {4, math.MinInt, 0, 9},
		"No of 2^20 and 1":                {4, topGen + 1, 0, 9},
		"No far above":                    {4, math.MaxInt, 0, 9},
		"First of -1":                     {4, 0, -1, 9},
		"First far below 0":               {4, 0, math.MinInt, 9},
		"First that is its Last":          {4, 0, 9, 9},
		"First above its Last":            {4, 0, 10, 9},
		"First far above":                 {4, 0, math.MaxInt, 9},
		"First and Last of 0":             {4, 0, 0, 0},
		"First and Last of -1":            {4, 0, -1, -1},
		"First of -1, Last of 0":          {4, 0, -1, 0},
		"First and Last far below 0":      {4, 0, math.MinInt, math.MinInt},
		"Last of -1":                      {4, 0, 0, -1},
		"Last far below 0":                {4, 0, 0, math.MinInt},
		"Last of 2^40 and 1":              {4, 0, 0, top + 1},
		"First and Last above the top":    {4, 0, top + 1, top + 2},
		"Last far above":                  {4, 0, 0, math.MaxInt},
		"Last that stands twice":          {4, 0, 2, 9, 5, 0, 3, 9},
		"one that stands twice":           {4, 0, 2, 9, 4, 0, 2, 9},
		"Last that stands twice, on top":  {4, 0, 2, top, 5, 0, 3, top},
		"Last that falls":                 {4, 0, 2, 9, 5, 0, 3, 8},
		"Last that falls, third":          {4, 0, 2, 9, 5, 0, 3, 18, 7, 0, 1, 12},
		"the second one's Pid wrong":      {4, 0, 2, 9, -1, 0, 3, 18, 7, 0, 1, 22},
		"the third one's No wrong":        {4, 0, 2, 9, 1, 0, 3, 18, 7, topGen + 1, 1, 22},
		"the second one's First wrong":    {4, 0, 2, 9, 1, 0, 18, 18, 7, 0, 1, 22},
		"the third one's Last wrong":      {4, 0, 2, 9, 1, 0, 3, 18, 7, 0, 1, top + 1},
		"Last behind one far above":       {4, 0, 2, math.MaxInt, 1, 0, 3, math.MinInt},
		"First that overtakes all Lasts":  {4, 0, math.MaxInt, math.MinInt},
		"all wrong":                       {-1, -1, -1, -1},
		"all far above":                   {math.MaxInt, math.MaxInt, math.MaxInt, math.MaxInt},
		"the first one of three: no Last": {4, 0, 0, 0, 1, 0, 3, 18, 7, 0, 1, 22},
	} {
		l = append(l, shape{"gone: " + name, ofGone(x...)}, shape{"done: " + name, ofDone(x...)})
		// Beside others that may be.
		t := three()
		t.Gone = endeds(x...)
		l = append(l, shape{"gone, of three: " + name, t})
		t = three()
		t.Done = endeds(x...)
		l = append(l, shape{"done, of three: " + name, t})
	}
	slices.SortFunc(l, func(a, b shape) int { return strings.Compare(a.name, b.name) })
	return l
}

// sent is a batch of so many offsets, each with a record, of a producer, in no transaction; at home it had another Base.
func sent(base, many, pid int) api.Batch {
	b := api.Batch{Base: base, Last: base + many - 1, From: 4711, Epoch: 13, Pid: pid, Gen: 2, Seq: 6}
	for i := range many {
		b.Recs = append(b.Recs, api.Rec{Off: base + i, Val: "v"})
	}
	return b
}

// nobodys is one of no producer.
func nobodys(base, many int) api.Batch {
	b := sent(base, many, -1)
	b.Gen, b.Seq = 0, 0
	return b
}

// data is one in a transaction.
func data(base, many, pid int) api.Batch {
	b := sent(base, many, pid)
	b.Txn = true
	return b
}

func ends(base, pid, no, ctl int) api.Batch {
	return api.Batch{Base: base, Last: base, From: 4711, Epoch: 13, Pid: pid, Gen: 2, Seq: no, Txn: true, Ctl: ctl}
}

func commits(base, pid, no int) api.Batch { return ends(base, pid, no, api.Commit) }
func aborts(base, pid, no int) api.Batch  { return ends(base, pid, no, api.Abort) }

// bare is a batch without its records: they were cleaned.
func bare(b api.Batch) api.Batch {
	b.Recs = nil
	return b
}

// fat is a batch that has form, but more bytes than it may have.
func fat(base, pid int) api.Batch {
	b := data(base, 16, pid)
	for i := range b.Recs {
		b.Recs[i].Key, b.Recs[i].Val = strings.Repeat("k", 64), strings.Repeat("v", 64)
	}
	return b
}

// no is a batch that may not be, with batch.Check's error of it.
type no struct {
	b api.Batch
	e api.Errno
}

// noBatches are batches that may not be, of that Base and Pid, as far as these are not what is wrong.
func noBatches(base, pid int) map[string]no {
	wrong := func(b api.Batch, change func(b *api.Batch)) no {
		change(&b)
		return no{b, api.ErrArg}
	}
	d, c, a := data(base, 2, pid), commits(base, pid, 3), aborts(base, pid, 3)
	return map[string]no{
		"Base of -1":             wrong(bare(d), func(b *api.Batch) { b.Base = -1 }),
		"Base above the top":     {data(top+1, 1, pid), api.ErrArg},
		"Last below Base":        wrong(bare(d), func(b *api.Batch) { b.Last = base - 1 }),
		"seventeen offsets":      {data(base, 17, pid), api.ErrArg},
		"Last above the top":     {data(top, 2, pid), api.ErrArg},
		"From of -1":             wrong(d, func(b *api.Batch) { b.From = -1 }),
		"Epoch of 2^20 and 1":    wrong(d, func(b *api.Batch) { b.Epoch = topGen + 1 }),
		"Pid of -2":              wrong(d, func(b *api.Batch) { b.Pid = -2 }),
		"Pid of 2^40 and 1":      wrong(d, func(b *api.Batch) { b.Pid = top + 1 }),
		"no Pid, with Txn":       wrong(nobodys(base, 1), func(b *api.Batch) { b.Txn = true }),
		"no Pid, with Gen":       wrong(nobodys(base, 1), func(b *api.Batch) { b.Gen = 1 }),
		"no Pid, Commit":         wrong(c, func(b *api.Batch) { b.Pid, b.Gen, b.Seq = -1, 0, 0 }),
		"no Pid, Abort":          wrong(a, func(b *api.Batch) { b.Pid, b.Gen, b.Seq = -1, 0, 0 }),
		"Gen of -1":              wrong(d, func(b *api.Batch) { b.Gen = -1 }),
		"Commit with Seq of -1":  wrong(c, func(b *api.Batch) { b.Seq = -1 }),
		"Commit with Seq above":  wrong(c, func(b *api.Batch) { b.Seq = topGen + 1 }),
		"Ctl of 3":               wrong(a, func(b *api.Batch) { b.Ctl = 3 }),
		"Ctl of -1":              wrong(a, func(b *api.Batch) { b.Ctl = -1 }),
		"Commit of two offsets":  wrong(c, func(b *api.Batch) { b.Last++ }),
		"Commit without Txn":     wrong(c, func(b *api.Batch) { b.Txn = false }),
		"Abort without Txn":      wrong(a, func(b *api.Batch) { b.Txn = false }),
		"Abort with a record":    wrong(a, func(b *api.Batch) { b.Recs = []api.Rec{{Off: base}} }),
		"records that fall":      wrong(d, func(b *api.Batch) { b.Recs[1].Off = base }),
		"a record that is aside": wrong(d, func(b *api.Batch) { b.Recs[1].Off = base + 2 }),
		"too many bytes":         {fat(base, pid), api.ErrBound},
	}
}

// offsetsOf are the offsets that transactions name, pidsOf the Pids.
func offsetsOf(t api.Tx) []int {
	var l []int
	for _, o := range t.Open {
		l = append(l, o.First)
	}
	for _, g := range slices.Concat(t.Gone, t.Done) {
		l = append(l, g.First, g.Last)
	}
	return l
}

func pidsOf(t api.Tx) []int {
	var l []int
	for _, o := range t.Open {
		l = append(l, o.Pid)
	}
	for _, g := range slices.Concat(t.Gone, t.Done) {
		l = append(l, g.Pid)
	}
	return l
}

// beside are numbers, those beside them, and the edges of what may be; of many the first ones, those in the middle and the last ones.
func beside(l []int) []int {
	slices.Sort(l)
	l = slices.Compact(l)
	if n := len(l); n > 9 {
		l = slices.Concat(l[:3], l[n/2-1:n/2+2], l[n-3:])
	}
	x := []int{-1, 0, 1, top - 1, top, top + 1}
	for _, n := range l {
		x = append(x, n-1, n, n+1)
	}
	slices.Sort(x)
	return slices.Compact(x)
}

// anyTx are transactions that may be, of small numbers.
func anyTx(r *rand.Rand) api.Tx {
	var t api.Tx
	for pid := range 6 {
		if r.Intn(3) == 0 {
			t.Open = append(t.Open, api.Open{Pid: pid, First: r.Intn(40)})
		}
	}
	ended := func() []api.Gone {
		var l []api.Gone
		for last := 1 + r.Intn(12); last < 40; last += 1 + r.Intn(12) {
			l = append(l, api.Gone{Pid: r.Intn(6), No: r.Intn(4), First: r.Intn(last), Last: last})
		}
		return l
	}
	t.Gone, t.Done = ended(), ended()
	return t
}

// anyBatch is one of all kinds, of small numbers, some of which may not be.
func anyBatch(r *rand.Rand, base int) api.Batch {
	pid := r.Intn(6)
	b := data(base, 1+r.Intn(3), pid)
	switch r.Intn(12) {
	case 0:
		b = nobodys(base, 1+r.Intn(3))
	case 1, 2:
		b = sent(base, 1+r.Intn(3), pid)
	case 3, 4, 5:
		b = commits(base, pid, r.Intn(9))
	case 6, 7, 8:
		b = aborts(base, pid, r.Intn(9))
	case 9:
		b = bare(b)
	}
	if r.Intn(25) == 0 {
		b.Epoch = -1
	}
	return b
}
