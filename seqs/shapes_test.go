package seqs_test

import (
	"math"
	"math/rand"
	"slices"
	"strings"

	"watermeet/api"
)

// shape is producers, and what they are.
type shape struct {
	name string
	l    []api.Prod
}

// did are batches of triples of numbers: Seq, Last and Base, Seq, Last and Base.
func did(l ...int) []api.Did {
	var x []api.Did
	for i := 0; i < len(l); i += 3 {
		x = append(x, api.Did{Seq: l[i], Last: l[i+1], Base: l[i+2]})
	}
	return x
}

// prod is a producer of such batches.
func prod(pid, gen int, l ...int) api.Prod {
	return api.Prod{Pid: pid, Gen: gen, Did: did(l...)}
}

func prods(l ...api.Prod) []api.Prod { return l }

// steps are so many batches of one number each, from that Seq on.
func steps(from, many int) []int {
	var x []int
	for i := range many {
		x = append(x, from+i, from+i, 100+i)
	}
	return x
}

// five are a producer's batches of unlike lengths, whose Bases lie apart.
func five(pid, gen int) api.Prod {
	return prod(pid, gen, 3, 3, 7, 4, 6, 8, 7, 8, 20, 9, 9, 30, 10, 14, 31)
}

// steady are so many producers, whose numbers rise evenly, from there on: each has none to five batches.
func steady(many, from, by int) []api.Prod {
	var l []api.Prod
	for i := range many {
		l = append(l, prod(from+i*by, i%3, steps(i%7, i%6)...))
	}
	return l
}

// shapes are producers that may be.
func shapes() []shape {
	return []shape{
		{"none", nil},
		{"none, but a list", []api.Prod{}},
		{"one without batches", prods(prod(0, 0))},
		{"one without batches, but a list", prods(api.Prod{Pid: 4, Did: []api.Did{}})},
		{"one with one", prods(prod(3, 0, 0, 0, 0))},
		{"one with two", prods(prod(3, 2, 0, 2, 9, 3, 3, 2))},
		{"one with four", prods(prod(3, 2, steps(5, 4)...))},
		{"one with five", prods(five(3, 2))},
		{"one at the top", prods(prod(top, topGen, topGen, topGen, top))},
		{"one at the top, without batches", prods(prod(top, topGen))},
		{"one that has got to the top, from far below", prods(prod(5, 1, 0, topGen, 0))},
		{"one that has got to the top, in two", prods(prod(5, 1, topGen-3, topGen-1, 8, topGen, topGen, 11))},
		{"one just below the top", prods(prod(5, 1, topGen-3, topGen-2, 8, topGen-1, topGen-1, 11))},
		{"Bases that fall, and are alike", prods(prod(2, 0, 4, 4, top, 5, 5, 0, 6, 6, 0))},
		{"longer than a batch may be", prods(prod(2, 0, 4, 400, 3, 401, 900, 4))},
		{"two", prods(prod(0, 1, 0, 0, 5), prod(1, 0, 2, 3, 6))},
		{"two from bottom to top", prods(prod(0, 0), prod(top, topGen, topGen, topGen, top))},
		{"three, apart", prods(prod(2, 1, 0, 1, 5), prod(5, 0), five(9, 3))},
		{"three, the last one by one more", prods(five(2, 0), prod(7, topGen, 1, 1, 1), prod(8, 0, 2, 2, 2))},
		{"many", steady(40, 0, 1)},
		{"many, apart", steady(61, 3, 5)},
		{"up to the top", steady(20, top-19, 1)},
		{"1023", steady(most-1, 1, 2)},
		{"1024", steady(most, 1, 2)},
	}
}

// odds are producers that may not be.
func odds() []shape {
	l := []shape{
		{"Pid of -1", prods(prod(-1, 0))},
		{"Pid far below 0", prods(prod(math.MinInt, 0))},
		{"Pid of 2^40 and 1", prods(prod(top+1, 0))},
		{"Pid far above", prods(prod(math.MaxInt, 0))},
		{"Gen of -1", prods(prod(0, -1))},
		{"Gen far below 0", prods(prod(0, math.MinInt))},
		{"Gen of 2^20 and 1", prods(prod(0, topGen+1))},
		{"Gen far above", prods(prod(0, math.MaxInt))},
		{"six batches", prods(prod(0, 0, steps(0, 6)...))},
		{"sixty batches", prods(prod(0, 0, steps(0, 60)...))},
		{"Pids that stand twice", prods(prod(2, 0), prod(2, 0))},
		{"Pids that stand twice, with other Gens", prods(prod(2, 0), prod(2, 1))},
		{"Pids that fall", prods(prod(2, 0), prod(1, 0))},
		{"Pids that fall, to the first one's and above", prods(prod(2, 0), prod(4, 0), prod(3, 0))},
		{"Pids that stand twice, at the top", prods(prod(top, 0), prod(top, 0))},
		{"the first Pid wrong", prods(prod(-1, 0), prod(2, 0), prod(3, 0))},
		{"the last Pid wrong", prods(prod(2, 0), prod(3, 0), prod(top+1, 0))},
		{"the first Gen wrong", prods(prod(1, -1), prod(2, 0), prod(3, 0))},
		{"the last Gen wrong", prods(prod(2, 0), prod(3, 0), prod(4, topGen+1))},
		{"the last one with six batches", prods(prod(2, 0), prod(3, 0), prod(4, 0, steps(0, 6)...))},
		{"a Seq that overtakes every number", prods(prod(2, 0, 0, math.MaxInt, 0, math.MinInt, 0, 0))},
	}
	for name, x := range map[string][]int{
		"Seq of -1":                         {-1, 0, 0},
		"Seq far below 0":                   {math.MinInt, 0, 0},
		"Seq and Last below 0":              {-1, -1, 0},
		"Last below its Seq":                {2, 1, 0},
		"Last of -1":                        {0, -1, 0},
		"Last far below its Seq":            {0, math.MinInt, 0},
		"Last of 2^20 and 1":                {3, topGen + 1, 0},
		"Last far above":                    {3, math.MaxInt, 0},
		"Seq and Last of 2^20 and 1":        {topGen + 1, topGen + 1, 0},
		"Base of -1":                        {0, 0, -1},
		"Base far below 0":                  {0, 0, math.MinInt},
		"Base of 2^40 and 1":                {0, 0, top + 1},
		"Base far above":                    {0, 0, math.MaxInt},
		"a Seq like the Last ahead":         {0, 1, 0, 1, 2, 5},
		"a Seq like the Seq ahead":          {0, 1, 0, 0, 2, 5},
		"a Seq two above the Last ahead":    {0, 1, 0, 3, 3, 5},
		"a Seq below all that is ahead":     {3, 4, 0, 2, 2, 5},
		"twice the same":                    {3, 4, 0, 3, 4, 0},
		"a Seq that follows the first Seq":  {0, 3, 0, 1, 3, 5},
		"the second one's Last below":       {0, 1, 0, 2, 1, 5},
		"the second one's Last above":       {0, 1, 0, 2, topGen + 1, 5},
		"the second one's Base below":       {0, 1, 0, 2, 2, -1},
		"the second one's Base above":       {0, 1, 0, 2, 2, top + 1},
		"the second one above the top":      {0, topGen, 0, topGen + 1, topGen + 1, 5},
		"a hole between the last two":       {0, 0, 0, 1, 1, 1, 2, 2, 2, 3, 3, 3, 5, 5, 4},
		"a hole between the first two":      {0, 0, 0, 2, 2, 1, 3, 3, 2, 4, 4, 3, 5, 5, 4},
		"the first one's Last too far down": {5, 4, 0, 5, 5, 1},
	} {
		l = append(l, shape{name, prods(prod(4, 1, x...))})
		l = append(l, shape{name + ", of the first one", prods(prod(4, 1, x...), five(5, 0), prod(6, 0))})
		l = append(l, shape{name + ", of the last one", prods(five(2, 0), prod(3, 0), prod(4, 1, x...))})
	}
	slices.SortFunc(l, func(a, b shape) int { return strings.Compare(a.name, b.name) })
	return l
}

// crowds are more producers than there may be, with and without what may not be besides.
func crowds() []shape {
	return []shape{
		{"1025", steady(most+1, 1, 2)},
		{"1025, up to the top", steady(most+1, top-most, 1)},
		{"2000", steady(2000, 1, 1)},
		{"1025 of the same Pid", make([]api.Prod, most+1)},
		{"1025, the first one wrong", append(prods(prod(-1, -1, -1, -1, -1)), steady(most, 1, 2)...)},
		{"1025, the last one wrong", append(steady(most, 1, 2), prod(0, 0, steps(0, 6)...))},
	}
}

// sent is a batch of so many offsets, each with a record; at home it had another Base.
func sent(pid, gen, seq, base, many int) api.Batch {
	b := api.Batch{Base: base, Last: base + many - 1, From: 4711, Epoch: 13, Pid: pid, Gen: gen, Seq: seq}
	for i := range many {
		b.Recs = append(b.Recs, api.Rec{Off: base + i, Val: "v"})
	}
	return b
}

// nobodys is a batch of no producer.
func nobodys(base int) api.Batch {
	return api.Batch{Base: base, Last: base, From: 4711, Epoch: 13, Pid: -1}
}

// ends is what ends a transaction.
func ends(pid, gen, base, ctl int) api.Batch {
	return api.Batch{Base: base, Last: base, From: 4711, Epoch: 13, Pid: pid, Gen: gen, Txn: true, Ctl: ctl}
}

// ofSeq is a batch with another Seq: also one that ends a transaction may have one.
func ofSeq(b api.Batch, seq int) api.Batch {
	b.Seq = seq
	return b
}

// fat is a batch that has form, but more bytes than it may have.
func fat(pid, gen, seq, base int) api.Batch {
	b := sent(pid, gen, seq, base, 16)
	for i := range b.Recs {
		b.Recs[i].Key, b.Recs[i].Val = strings.Repeat("k", 64), strings.Repeat("v", 64)
	}
	return b
}

// noBatches are batches that may not be, of that producer, with batch.Check's error of each.
func noBatches(pid int) map[string]struct {
	b api.Batch
	e api.Errno
} {
	type no = struct {
		b api.Batch
		e api.Errno
	}
	wrong := func(change func(b *api.Batch)) no {
		b := sent(pid, 1, 0, 40, 2)
		change(&b)
		return no{b, api.ErrArg}
	}
	return map[string]no{
		"Base of -1":             wrong(func(b *api.Batch) { b.Base = -1 }),
		"Last below Base":        wrong(func(b *api.Batch) { b.Last = 39; b.Recs = nil }),
		"seventeen offsets":      {sent(pid, 1, 0, 40, 17), api.ErrArg},
		"Last far above":         wrong(func(b *api.Batch) { b.Last = math.MaxInt }),
		"Last far below":         wrong(func(b *api.Batch) { b.Last = math.MinInt }),
		"Last above the top":     {sent(pid, 1, 0, top, 2), api.ErrArg},
		"From of -1":             wrong(func(b *api.Batch) { b.From = -1 }),
		"Epoch of -1":            wrong(func(b *api.Batch) { b.Epoch = -1 }),
		"Pid of -2":              wrong(func(b *api.Batch) { b.Pid = -2 }),
		"Pid of 2^40 and 1":      wrong(func(b *api.Batch) { b.Pid = top + 1 }),
		"no Pid, with Gen":       wrong(func(b *api.Batch) { b.Pid = -1 }),
		"no Pid, with Seq":       wrong(func(b *api.Batch) { b.Pid, b.Gen, b.Seq = -1, 0, 1 }),
		"no Pid, with Txn":       wrong(func(b *api.Batch) { b.Pid, b.Gen, b.Txn = -1, 0, true }),
		"no Pid, with Ctl":       wrong(func(b *api.Batch) { *b = ends(-1, 0, 40, api.Abort) }),
		"Gen of -1":              wrong(func(b *api.Batch) { b.Gen = -1 }),
		"Gen of 2^20 and 1":      wrong(func(b *api.Batch) { b.Gen = topGen + 1 }),
		"Seq of -1":              wrong(func(b *api.Batch) { b.Seq = -1 }),
		"Seq of 2^20 and 1":      wrong(func(b *api.Batch) { b.Seq = topGen + 1 }),
		"a last number above":    wrong(func(b *api.Batch) { b.Seq = topGen }),
		"Ctl of 3":               wrong(func(b *api.Batch) { b.Ctl = 3 }),
		"Ctl of -1":              wrong(func(b *api.Batch) { b.Ctl = -1 }),
		"Commit of two":          wrong(func(b *api.Batch) { b.Ctl, b.Txn, b.Recs = api.Commit, true, nil }),
		"Commit without Txn":     wrong(func(b *api.Batch) { *b = ends(pid, 1, 40, api.Commit); b.Txn = false }),
		"Abort with a record":    wrong(func(b *api.Batch) { *b = ends(pid, 1, 40, api.Abort); b.Recs = []api.Rec{{Off: 40}} }),
		"records that fall":      wrong(func(b *api.Batch) { b.Recs[1].Off = 40 }),
		"a record without form":  wrong(func(b *api.Batch) { b.Recs[1].Stamp = -1 }),
		"a record that is aside": wrong(func(b *api.Batch) { b.Recs[1].Off = 42 }),
		"too many bytes":         {fat(pid, 1, 0, 40), api.ErrBound},
	}
}

// few are the producers at the beginning, in the middle and at the end.
func few(l []api.Prod) []api.Prod {
	if n := len(l); n > 9 {
		return slices.Concat(l[:3], l[n/2-1:n/2+2], l[n-3:])
	}
	return l
}

// batchesBeside are batches that meet producers in each way that there is: of the numbers of a few of them, and of those beside them.
func batchesBeside(l []api.Prod) []api.Batch {
	x := []api.Batch{nobodys(0), nobodys(top), sent(-1, 0, 0, 3, 16)}
	pids := []int{0, 1, top - 1, top}
	for _, p := range few(l) {
		pids = append(pids, p.Pid-1, p.Pid, p.Pid+1)
	}
	slices.Sort(pids)
	for _, pid := range slices.Compact(pids) {
		p, _ := wordsOne(l, pid)
		for _, gen := range []int{0, p.Gen - 1, p.Gen, p.Gen + 1, topGen} {
			x = append(x, ends(pid, gen, 50, api.Commit), ends(pid, gen, top, api.Abort), ofSeq(ends(pid, gen, 7, api.Commit), 9))
			x = append(x, sent(pid, gen, 0, 60, 1), sent(pid, gen, 0, 60, 3), sent(pid, gen, 1, 60, 1), sent(pid, gen, topGen, top, 1))
			for _, d := range p.Did {
				for _, seq := range []int{d.Seq - 1, d.Seq, d.Seq + 1, d.Last, d.Last + 1, d.Last + 2} {
					for _, last := range []int{d.Last - 1, d.Last, d.Last + 1} {
						x = append(x, sent(pid, gen, seq, 70, min(max(last-seq+1, 1), 17)))
					}
				}
			}
		}
	}
	return x
}

// anyProds are producers that may be, from anywhere on.
func anyProds(r *rand.Rand) []api.Prod {
	var l []api.Prod
	pid := r.Intn(4)
	if r.Intn(5) == 0 {
		pid = top - r.Intn(30)
	}
	for range r.Intn(8) {
		if pid > top {
			break
		}
		p := api.Prod{Pid: pid, Gen: r.Intn(4)}
		seq := r.Intn(6)
		if r.Intn(8) == 0 {
			p.Gen, seq = topGen-r.Intn(3), topGen-r.Intn(20)
		}
		for range r.Intn(6) {
			last := seq + r.Intn(4)
			if last > topGen {
				break
			}
			p.Did = append(p.Did, api.Did{Seq: seq, Last: last, Base: r.Intn(100)})
			seq = last + 1
		}
		l = append(l, p)
		pid += 1 + r.Intn(3)
	}
	return l
}

// smallProds are all producers of the Pids 0 to many-1, each of which is not there, or has one of these Gens, and one of these lists of batches.
func smallProds(many int, gens []int, dids [][]api.Did) [][]api.Prod {
	all := [][]api.Prod{nil}
	for pid := range many {
		for _, l := range slices.Clone(all) {
			for _, gen := range gens {
				for _, d := range dids {
					all = append(all, append(slices.Clip(slices.Clone(l)), api.Prod{Pid: pid, Gen: gen, Did: d}))
				}
			}
		}
	}
	return all
}
