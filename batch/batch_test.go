package batch_test

import (
	"bytes"
	"fmt"
	"math"
	"reflect"
	"slices"
	"testing"

	"watermeet/api"
	"watermeet/batch"
)

// nothing tells whether a batch is the zero one.
func nothing(b api.Batch) bool { return reflect.DeepEqual(b, api.Batch{}) }

// alike tells whether two batches are the same, lists that are nil and empty too; it does not ask the program.
func alike(a, b api.Batch) bool {
	if len(a.Recs) == 0 && len(b.Recs) == 0 {
		a.Recs, b.Recs = nil, nil
	}
	return reflect.DeepEqual(a, b)
}

// told fails, unless Check, Size and Put tell that of a batch, and leave it, and the room behind its list, as it was.
func told(t *testing.T, name string, b api.Batch, want []byte, e api.Errno) {
	t.Helper()
	b = copied(b)
	was := slices.Clone(b.Recs[:cap(b.Recs)])
	if got := batch.Check(b); got != e {
		t.Errorf("%s: %s: Check tells %d, want %d", name, brief(b), got, e)
	}
	if n := batch.Size(b); n != len(want) {
		t.Errorf("%s: %s: Size tells %d, want %d", name, brief(b), n, len(want))
	}
	x, got := batch.Put(b)
	if !bytes.Equal(x, want) || got != e || e != api.OK && x != nil {
		t.Errorf("%s: %s: Put tells %.60q, %d, want %.60q, %d", name, brief(b), x, got, want, e)
	}
	if !slices.Equal(b.Recs[:cap(b.Recs)], was) {
		t.Errorf("%s: the list that was handed in, and the room behind it, is %v, was %v", name, b.Recs[:cap(b.Recs)], was)
	}
}

// toldAsWords is told, of what the chapter's words tell; it answers whether the batch may be.
func toldAsWords(t *testing.T, name string, b api.Batch) bool {
	t.Helper()
	e := wordsCheck(b)
	if e != api.OK {
		told(t, name, b, nil, e)
		return false
	}
	told(t, name, b, bytesOf(b), api.OK)
	return true
}

func TestP4_1CheckAndSize(t *testing.T) {
	for _, b := range mayBe() {
		if e := batch.Check(b); e != api.OK {
			t.Errorf("%s may be: got %d", brief(b), e)
		}
		if n := batch.Size(b); n != len(bytesOf(b)) || n < 17 || n > 2048 {
			t.Errorf("%s: got size %d, want %d", brief(b), n, len(bytesOf(b)))
		}
	}
	for _, w := range mayNotBe() {
		if e := batch.Check(w.b); e != api.ErrArg {
			t.Errorf("%s: %s may not be: got %d", w.name, brief(w.b), e)
		}
		if n := batch.Size(w.b); n != 0 {
			t.Errorf("%s: %s: got size %d", w.name, brief(w.b), n)
		}
	}
	for _, x := range []struct {
		b    api.Batch
		size int
	}{
		{example(), 25}, {whole(), 32}, {end(api.Abort), 17}, {api.Batch{}, 17},
		{api.Batch{Base: 63, Last: 63}, 17}, {api.Batch{Base: 64, Last: 64}, 18},
		{api.Batch{Base: top, Last: top, From: top, Epoch: topGen, Pid: top, Gen: topGen, Seq: topGen}, 41},
	} {
		if n := batch.Size(x.b); n != x.size {
			t.Errorf("%s: got size %d, want %d", brief(x.b), n, x.size)
		}
	}
}

func TestP4_1CheckOfBound(t *testing.T) {
	for _, base := range []int{0, 40, 64, 9000, top - 15} {
		for n := 2040; n <= 2060; n++ {
			b := sized(base, n)
			if len(bytesOf(b)) != n {
				t.Fatalf("the test makes %d bytes, not %d", len(bytesOf(b)), n)
			}
			if n <= 2048 {
				told(t, fmt.Sprint(n, " bytes"), b, bytesOf(b), api.OK)
				continue
			}
			told(t, fmt.Sprint(n, " bytes"), b, nil, api.ErrBound)
			for _, how := range []func(b *api.Batch){
				func(b *api.Batch) { b.From = -1 },
				func(b *api.Batch) { b.Seq = 1 },
				func(b *api.Batch) { b.Ctl = api.Commit },
				func(b *api.Batch) { b.Recs[15].Off-- },
				func(b *api.Batch) { b.Recs[15].Dead = true },
				func(b *api.Batch) { b.Recs[15].Stamp = -1 },
			} {
				two := copied(b)
				how(&two)
				told(t, "too many bytes, and no form", two, nil, api.ErrArg)
			}
		}
	}
	told(t, "as many bytes as sixteen records can have", full(0, text(64), text(64)), nil, api.ErrBound)
}

func TestP4_1CheckOfOffsets(t *testing.T) {
	may, mayNot := 0, 0
	edges := []int{math.MinInt, math.MinInt + 15, -16, -1, 0, 1, 15, 16, top - 16, top - 15, top - 14, top - 1, top, top + 1, math.MaxInt - 15, math.MaxInt}
	for _, base := range edges {
		lasts := slices.Clone(edges)
		for _, more := range []int{-1, 0, 1, 2, 14, 15, 16, 17} {
			lasts = append(lasts, base+more)
		}
		for _, last := range lasts {
			for _, from := range edges {
				count(toldAsWords(t, "offsets", api.Batch{Base: base, Last: last, From: from, Pid: -1}), &may, &mayNot)
			}
		}
	}
	if may < 100 || mayNot < 1000 {
		t.Errorf("%d may be, %d may not: that looks at too little", may, mayNot)
	}
}

func TestP4_1CheckOfProducers(t *testing.T) {
	may, mayNot := 0, 0
	gens := []int{-1, 0, 1, topGen - 1, topGen, topGen + 1, math.MaxInt}
	for _, pid := range []int{math.MinInt, -2, -1, 0, 1, top - 1, top, top + 1, math.MaxInt} {
		for _, gen := range gens {
			for _, seq := range append([]int{topGen - 16, topGen - 15, topGen - 14, math.MinInt}, gens...) {
				for ctl := -1; ctl <= 4; ctl++ {
					for _, more := range []int{0, 1, 15} {
						b := api.Batch{Last: more, Epoch: gens[(gen+seq)&1+1], Pid: pid, Gen: gen, Seq: seq, Ctl: ctl}
						for range 2 {
							count(toldAsWords(t, "producers", b), &may, &mayNot)
							b.Txn = !b.Txn
						}
					}
				}
			}
		}
	}
	for _, epoch := range append([]int{math.MinInt}, gens...) {
		toldAsWords(t, "epochs", api.Batch{Epoch: epoch})
		toldAsWords(t, "epochs", api.Batch{Pid: -1, Epoch: epoch})
	}
	if may < 500 || mayNot < 10000 {
		t.Errorf("%d may be, %d may not: that looks at too little", may, mayNot)
	}
}

func TestP4_1CheckOfRecords(t *testing.T) {
	kinds := []api.Rec{{Key: "k", Val: "v"}, {Key: "k", Dead: true}, {Dead: true}, {Stamp: top}, {Stamp: -1}}
	may, mayNot := 0, 0
	var on func(b api.Batch)
	on = func(b api.Batch) {
		count(toldAsWords(t, "records", b), &may, &mayNot)
		if len(b.Recs) == 3 {
			return
		}
		for off := b.Base - 1; off <= b.Last+1; off++ {
			for _, r := range kinds {
				r.Off = off
				two := b
				two.Recs = append(slices.Clone(b.Recs), r)
				on(two)
			}
		}
	}
	on(api.Batch{Base: 3, Last: 4, Pid: -1})
	for _, ctl := range []int{api.Data, api.Commit, api.Abort, 3} {
		for _, base := range []int{0, top} {
			on(api.Batch{Base: base, Last: base, Txn: true, Ctl: ctl, Recs: []api.Rec{{Off: base, Key: "k"}, {Off: base + 1}}})
			on(api.Batch{Base: base, Last: base, Txn: true, Ctl: ctl, Recs: []api.Rec{}})
		}
	}
	if may < 20 || mayNot < 1000 {
		t.Errorf("%d may be, %d may not: that looks at too little", may, mayNot)
	}
}

func TestP4_2PutIsWrittenAsTheChapterTells(t *testing.T) {
	for _, x := range []struct {
		name string
		b    api.Batch
		want string
	}{
		{"the chapter's example", example(), "\x00\x00\x00\x15" + "\x00\x00\x00\x00\x01\x00\x00\x00" + "\x02\x0a" + "\x00\x00\x00\x02a\x02b" + "\xd9\xd9\x17\x1c"},
		{"all that data may have", whole(), "\x00\x00\x00\x1c" + "\x0e\x04\x50\x04\x06\x02\x08\x04" + "\x04\xc8\x01" + "\x00\x00\x00\x02k\x02v" + "\x04\x13\x01\x02k\x00" + "\xb0\x56\x13\x3c"},
		{"a transaction is committed", end(api.Commit), "\x00\x00\x00\x0d" + "\x14\x00\x16\x04\x06\x02\x08\x05" + "\x00" + "\xde\x97\x74\xe7"},
		{"a transaction is aborted", end(api.Abort), "\x00\x00\x00\x0d" + "\x14\x00\x16\x04\x06\x02\x08\x06" + "\x00" + "\xf5\xba\x27\x24"},
		{"nothing, of producer 0", api.Batch{}, "\x00\x00\x00\x0d" + "\x00\x00\x00\x00\x00\x00\x00\x00\x00" + "\xe6\x09\x14\xae"},
		{"all records are cleaned", api.Batch{Base: 64, Last: 79, From: 300, Pid: -1}, "\x00\x00\x00\x0f" + "\x80\x01\x1e\xd8\x04\x00\x01\x00\x00\x00\x00" + "\x8b\x71\x16\xa4"},
	} {
		told(t, x.name, x.b, []byte(x.want), api.OK)
	}
	for _, b := range mayBe() {
		told(t, "may be", b, bytesOf(b), api.OK)
	}
}

func TestP4_2PutRefusesWhatMayNotBe(t *testing.T) {
	for _, w := range mayNotBe() {
		told(t, w.name, w.b, nil, api.ErrArg)
	}
	told(t, "a byte too many", sized(0, 2049), nil, api.ErrBound)
}

func TestP4_2PutAnswersNewBytes(t *testing.T) {
	for _, b := range mayBe() {
		one, _ := batch.Put(b)
		clear(one[:cap(one)])
		if two, e := batch.Put(b); !bytes.Equal(two, bytesOf(b)) || e != api.OK {
			t.Errorf("%s: once its answer was written into, Put answers %.60q, %d", brief(b), two, e)
		}
	}
}

// get fails, unless Get answers that, and leaves the bytes, and the room behind them, as they were; more is what stands in the room.
func get(t *testing.T, name string, b, more []byte, at int, want api.Batch, next int, e api.Errno) {
	t.Helper()
	b = roomy(b, more)
	was := slices.Clone(b[:cap(b)])
	gotB, gotNext, gotE := batch.Get(b, at)
	if !alike(gotB, want) || gotNext != next || gotE != e {
		t.Errorf("%s (%.60q, at %d): got %s, %d, %d, want %s, %d, %d", name, b, at, brief(gotB), gotNext, gotE, brief(want), next, e)
	}
	if e != api.OK && !nothing(gotB) {
		t.Errorf("%s (%.60q, at %d): with an error Get tells %s", name, b, at, brief(gotB))
	}
	if !bytes.Equal(b[:cap(b)], was) {
		t.Errorf("%s: the bytes, and the room behind them, are %q, were %q", name, b[:cap(b)], was)
	}
}

// refused fails, unless Get tells that error of the bytes, alone, and between others.
func refused(t *testing.T, name string, b []byte, e api.Errno) {
	t.Helper()
	get(t, name, b, nil, 0, api.Batch{}, 0, e)
	get(t, name+", behind others", slices.Concat([]byte("\x00\x00\x00"), b), nil, 3, api.Batch{}, 0, e)
	if e != api.ErrShort {
		get(t, name+", ahead of others", slices.Concat(b, []byte("\x00\x00\x00")), nil, 0, api.Batch{}, 0, e)
	}
}

func TestP4_3GetReadsTheBatchAtAPlace(t *testing.T) {
	var all []byte
	for _, b := range mayBe() {
		x := bytesOf(b)
		get(t, "alone", x, nil, 0, b, len(x), api.OK)
		get(t, "between others", slices.Concat([]byte{1, 2}, x, []byte{3}), nil, 2, b, 2+len(x), api.OK)
		all = append(all, x...)
	}
	at := 0
	for _, b := range mayBe() {
		get(t, "one of many", all, nil, at, b, at+len(bytesOf(b)), api.OK)
		at += len(bytesOf(b))
	}
	if at != len(all) {
		t.Errorf("they end at %d, want %d", at, len(all))
	}
}

func TestP4_3GetOfPlaces(t *testing.T) {
	x := bytesOf(example())
	for _, b := range [][]byte{nil, {}, {0}, x, slices.Concat(x, x)} {
		for _, at := range []int{-1, -2, -25, math.MinInt, math.MinInt + 1} {
			get(t, "a place below 0", b, x, at, api.Batch{}, 0, api.ErrArg)
		}
		for _, more := range []int{0, 1, 4, 25, 26, 1000} {
			get(t, "a place at the end, or above it", b, x, len(b)+more, api.Batch{}, 0, api.ErrShort)
		}
		for _, at := range []int{math.MaxInt, math.MaxInt - 1, math.MaxInt - 4, math.MaxInt - 21, math.MaxInt - 25} {
			get(t, "a place far above", b, x, at, api.Batch{}, 0, api.ErrShort)
		}
	}
	get(t, "just ahead of the end", slices.Concat(x, x), nil, 49, api.Batch{}, 0, api.ErrShort)
	get(t, "three bytes ahead of the end", slices.Concat(x, x[:3]), x[3:], 25, api.Batch{}, 0, api.ErrShort)
	get(t, "at the end, though a batch stands in the room", x, x, 25, api.Batch{}, 0, api.ErrShort)
}

func TestP4_3GetOfBytesCutShort(t *testing.T) {
	for _, b := range mayBe() {
		x := bytesOf(b)
		for n := range x {
			get(t, "cut short", x[:n], x[n:], 0, api.Batch{}, 0, api.ErrShort)
		}
		two := slices.Concat([]byte{0, 0}, x)
		get(t, "cut short, behind others", two[:len(two)-1], two[len(two)-1:], 2, api.Batch{}, 0, api.ErrShort)
	}
}

// stretched is a sealed body whose length says another number.
func stretched(b []byte, n int) []byte {
	b = slices.Clone(b)
	b[0], b[1], b[2], b[3] = byte(n>>24), byte(n>>16), byte(n>>8), byte(n)
	return b
}

func TestP4_3GetOfLengths(t *testing.T) {
	for n := range 5 {
		b := make([]byte, 4+n)
		b[3] = byte(n)
		refused(t, "a length below 5", b, api.ErrForm)
		refused(t, "a length below 5, nothing behind", b[:4], api.ErrForm)
	}
	refused(t, "no body, with its sum", sealed(nil), api.ErrForm)
	refused(t, "a length of 5, nothing behind", []byte{0, 0, 0, 5}, api.ErrShort)
	refused(t, "a length of 5, a byte missing", []byte{0, 0, 0, 5, 0, 0, 0, 0}, api.ErrShort)
	refused(t, "a length of 5, another sum", []byte{0, 0, 0, 5, 0, 0, 0, 0, 0}, api.ErrSum)
	refused(t, "a length of 5, with its sum", sealed([]byte{0}), api.ErrForm)

	long := sized(0, 2049)
	for _, n := range []int{2045, 2046, 2048, 2052, 4096, 1<<16 + 21, 1 << 24, 1<<31 - 1, 1 << 31, 1<<32 - 21, 1<<32 - 1} {
		refused(t, "a length above 2044", stretched(bytesOf(long), n), api.ErrForm)
		refused(t, "a length above 2044, nothing behind", stretched(make([]byte, 4), n), api.ErrForm)
	}
	refused(t, "a batch of a byte too many", bytesOf(long), api.ErrForm)
	refused(t, "a length of 2044, nothing behind", []byte{0, 0, 7, 252}, api.ErrShort)
	refused(t, "a length of 2044, a byte missing", bytesOf(sized(0, 2048))[:2047], api.ErrShort)
	refused(t, "a length of 2044, another sum", stretched(make([]byte, 2048), 2044), api.ErrSum)
	refused(t, "a length of 2044, no batch's body", sealed(make([]byte, 2040)), api.ErrForm)
}

func TestP4_3GetTellsAnotherSum(t *testing.T) {
	for _, b := range mayBe() {
		x := bytesOf(b)
		for i := len(x) - 4; i < len(x); i++ {
			x[i] ^= 1
			refused(t, "another sum", x, api.ErrSum)
			x[i] ^= 1
		}
		slices.Reverse(x[len(x)-4:])
		refused(t, "a sum whose lowest byte stands first", x, api.ErrSum)
	}
	bad := sealed([]byte("no batch's body"))
	bad[len(bad)-1]++
	refused(t, "another sum, ahead of the body's form", bad, api.ErrSum)
	bad = bytesOf(api.Batch{Pid: -1, Gen: 1})
	bad[len(bad)-1]++
	refused(t, "another sum, ahead of what may not be", bad, api.ErrSum)
}

func TestP4_3GetRefusesBodies(t *testing.T) {
	const head, rec1 = "\x00\x00\x00\x00\x01\x00\x00\x00", "\x00\x00\x00\x02a\x02b"
	for _, x := range []struct{ name, body string }{
		{"a number", "\x00"},
		{"a head that is not ended", head[:7]},
		{"a head without how many records", head},
		{"a byte is left", head + "\x00\x00"},
		{"bytes are left behind a record", head + "\x02\x0a" + rec1 + "\x00"},
		{"a second record is left", head + "\x02\x0a" + rec1 + rec1},
		{"no records, and a stamp", head + "\x00\x0a"},
		{"a record, and no stamp", head + "\x02" + rec1},
		{"a record is missing", head + "\x02\x0a"},
		{"a record, and its stamp, are missing", head + "\x02"},
		{"the second record is missing", "\x00\x02\x00\x00\x01\x00\x00\x00" + "\x04\x0a" + rec1},
		{"a record is cut short", head + "\x02\x0a" + rec1[:6]},
		{"-1 records", head + "\x01"},
		{"-1 records, and a stamp", head + "\x01\x0a"},
		{"-1 records, and one", head + "\x01\x0a" + rec1},
		{"very few records", head + "\xff\xff\xff\xff\xff\xff\xff\xff\xff\x01"},
		{"very many records", head + "\xfe\xff\xff\xff\xff\xff\xff\xff\xff\x01\x0a" + rec1},
		{"a longer form of Base", "\x80\x00\x00\x00\x00\x01\x00\x00\x00\x00"},
		{"a longer form of Seq", "\x00\x00\x00\x00\x01\x00\x80\x00\x00\x00"},
		{"a longer form of how many", head + "\x80\x00"},
		{"a longer form of a stamp", head + "\x02\x8a\x00" + rec1},
		{"a longer form of a record's offset", head + "\x02\x0a" + "\x80\x00" + rec1[1:]},
		{"a longer form of a key's length", head + "\x02\x0a" + "\x00\x00\x00\x82\x00a\x02b"},
		{"another stamp than the first record has", head + "\x02\x08" + "\x00\x02\x00\x02a\x02b"},
		{"another stamp than the first record has, above it", head + "\x02\x0c" + "\x00\x01\x00\x02a\x02b"},
		{"a stamp below 0", head + "\x02\x01" + rec1},
		{"a stamp below 0, the first record's in range", head + "\x02\x01" + "\x00\x02\x00\x02a\x02b"},
		{"a record below Base", "\x02\x00\x00\x00\x01\x00\x00\x00" + "\x02\x0a" + "\x01\x00\x00\x02a\x02b"},
		{"a record above Last", head + "\x02\x0a" + "\x02\x00\x00\x02a\x02b"},
		{"a record whose key is gone, and is none", head + "\x02\x0a" + "\x00\x00\x01\x00\x00"},
		{"a record whose mark is 2", head + "\x02\x0a" + "\x00\x00\x02\x02a\x02b"},
		{"a key of 65 bytes", head + "\x02\x0a" + "\x00\x00\x00\x82\x01" + text(65) + "\x00"},
		{"two records at one offset", "\x00\x02\x00\x00\x01\x00\x00\x00" + "\x04\x0a" + rec1 + rec1},
		{"a mark of 3", "\x00\x00\x00\x00\x00\x00\x00\x03\x00"},
		{"a mark of 7", "\x00\x00\x00\x00\x00\x00\x00\x07\x00"},
		{"a mark of 8", "\x00\x00\x00\x00\x00\x00\x00\x08\x00"},
		{"a mark of 128", "\x00\x00\x00\x00\x00\x00\x00\x80\x00"},
		{"a mark of 132", "\x00\x00\x00\x00\x00\x00\x00\x84\x00"},
		{"what ends a transaction, and is in none", "\x00\x00\x00\x00\x00\x00\x00\x01\x00"},
		{"a commit of two offsets", "\x00\x02\x00\x00\x00\x00\x00\x05\x00"},
		{"an abort with a record", "\x00\x00\x00\x00\x00\x00\x00\x06" + "\x02\x0a" + rec1},
		{"a commit of no producer", "\x00\x00\x00\x00\x01\x00\x00\x05\x00"},
		{"no producer, in a transaction", "\x00\x00\x00\x00\x01\x00\x00\x04\x00"},
		{"no producer, with Gen", "\x00\x00\x00\x00\x01\x02\x00\x00\x00"},
		{"no producer, with Seq", "\x00\x00\x00\x00\x01\x00\x02\x00\x00"},
		{"Base below 0", "\x01\x00\x00\x00\x01\x00\x00\x00\x00"},
		{"Last below Base", "\x04\x01\x00\x00\x01\x00\x00\x00\x00"},
		{"16 offsets more", "\x00\x20\x00\x00\x01\x00\x00\x00\x00"},
		{"Base below 0, Last from 0 on", "\x01\x02\x00\x00\x01\x00\x00\x00\x00"},
		{"Base far above, Last round the end of all numbers", "\xfe\xff\xff\xff\xff\xff\xff\xff\xff\x01\x02\x00\x00\x01\x00\x00\x00\x00"},
		{"Base far below, Last in range", "\xff\xff\xff\xff\xff\xff\xff\xff\xff\x01\xfe\xff\xff\xff\xff\xff\xff\xff\xff\x01\x00\x00\x01\x00\x00\x00\x00"},
		{"Base 5, Last round the end of all numbers", "\x0a\xfe\xff\xff\xff\xff\xff\xff\xff\xff\x01\x00\x00\x01\x00\x00\x00\x00"},
		{"From below 0", "\x00\x00\x01\x00\x01\x00\x00\x00\x00"},
		{"Epoch below 0", "\x00\x00\x00\x01\x01\x00\x00\x00\x00"},
		{"Epoch above the top", "\x00\x00\x00\x82\x80\x80\x01\x01\x00\x00\x00\x00"},
		{"Pid -2", "\x00\x00\x00\x00\x03\x00\x00\x00\x00"},
		{"Gen below 0", "\x00\x00\x00\x00\x00\x01\x00\x00\x00"},
		{"Seq below 0", "\x00\x00\x00\x00\x00\x00\x01\x00\x00"},
		{"no number ends", "\x80\x80\x80\x80\x80\x80\x80\x80\x80\x80\x80\x80"},
		{"a number above an int", "\xff\xff\xff\xff\xff\xff\xff\xff\xff\x02\x00\x00\x00\x01\x00\x00\x00\x00"},
		{"another batch in it", string(bytesOf(example()))},
	} {
		refused(t, x.name, sealed([]byte(x.body)), api.ErrForm)
	}
	for _, w := range mayNotBe() {
		// In the one byte of a mark another kind may be one that there is.
		if w.b.Ctl >= 0 && w.b.Ctl <= 3 && len(w.b.Recs) < 100 {
			refused(t, w.name, bytesOf(w.b), api.ErrForm)
		}
	}
}

// read fails, unless Get answers of a body, sealed, what the chapter's words tell; it answers whether there is such a batch.
func read(t *testing.T, body []byte) bool {
	t.Helper()
	b := sealed(body)
	want, wantNext, wantE := wordsGet(b, 0)
	got, next, e := batch.Get(b, 0)
	if !alike(got, want) || next != wantNext || e != wantE {
		t.Fatalf("%q: got %s, %d, %d, want %s, %d, %d", body, brief(got), next, e, brief(want), wantNext, wantE)
	}
	return e == api.OK
}

// count counts what is, and what is not.
func count(is bool, yes, no *int) {
	if is {
		*yes++
	} else {
		*no++
	}
}

// each hands on all texts of up to so many of these bytes, behind a text.
func each(text, of []byte, most int, call func(b []byte)) {
	call(text)
	if most == 0 {
		return
	}
	for _, c := range of {
		each(append(text, c), of, most-1, call)
	}
}

func TestP4_3GetOfAllShortBodies(t *testing.T) {
	got, other := 0, 0
	look := func(b []byte) { count(read(t, b), &got, &other) }
	each(nil, []byte{0, 1, 2, 30, 32}, 3, look)
	each(nil, []byte{0, 1, 2}, 10, look)
	each([]byte{2, 0, 0, 0, 0, 0, 0}, []byte{0, 1, 2, 3, 4, 5, 6, 7, 8, 9, 128, 132, 255}, 2, look)
	each([]byte{0, 2, 0, 0, 1, 0, 0, 0}, []byte{0, 1, 2, 4}, 8, look)
	if got < 60 || other < 100000 {
		t.Errorf("%d were got, %d not: that looks at too little", got, other)
	}
}

func TestP4_3GetOfChangedBodies(t *testing.T) {
	got, other := 0, 0
	look := func(b []byte) { count(read(t, b), &got, &other) }
	for _, b := range mayBe() {
		body := bodyOf(b)
		if len(body) > 60 {
			continue
		}
		for i := range body {
			was := body[i]
			for c := range 256 {
				body[i] = byte(c)
				look(body)
			}
			body[i] = was
			look(slices.Delete(slices.Clone(body), i, i+1))
			for _, c := range []byte{0, 1, 2, 128, 255} {
				look(slices.Insert(slices.Clone(body), i, c))
			}
		}
		look(append(body, 0))
		look(append(body, body...))
	}
	some := []byte{0, 1, 2, 3, 4, 10, 30, 128, 129}
	for _, b := range []api.Batch{example(), whole(), end(api.Commit)} {
		body := bodyOf(b)
		for i := range body {
			for j := range i {
				for k := range len(some) * len(some) {
					two := slices.Clone(body)
					two[i], two[j] = some[k%len(some)], some[k/len(some)]
					look(two)
				}
			}
		}
	}
	if got < 1000 || other < 10000 {
		t.Errorf("%d were got, %d not: that looks at too little", got, other)
	}
}

func TestP4_3GetAnswersWhatIsNew(t *testing.T) {
	for _, b := range mayBe() {
		x := bytesOf(b)
		one, _, _ := batch.Get(x, 0)
		two, _, _ := batch.Get(x, 0)
		clear(x)
		if !alike(one, b) {
			t.Errorf("once the bytes were written into, the batch is %s, was %s", brief(one), brief(b))
		}
		clear(one.Recs[:cap(one.Recs)])
		if !alike(two, b) {
			t.Errorf("once another answer was written into, the batch is %s, was %s", brief(two), brief(b))
		}
	}
}

// moved fails, unless Moved answers that, and leaves the batch, and the room behind its list, as it was, and shares no list with it.
func moved(t *testing.T, name string, b api.Batch, base int, want api.Batch, e api.Errno) {
	t.Helper()
	b = copied(b)
	was := slices.Clone(b.Recs[:cap(b.Recs)])
	got, gotE := batch.Moved(b, base)
	if !alike(got, want) || gotE != e || e != api.OK && !nothing(got) {
		t.Errorf("%s: %s to %d: got %s, %d, want %s, %d", name, brief(b), base, brief(got), gotE, brief(want), e)
	}
	clear(got.Recs[:cap(got.Recs)])
	if !slices.Equal(b.Recs[:cap(b.Recs)], was) {
		t.Errorf("%s: the list that was handed in, and the room behind it, is %v, was %v", name, b.Recs[:cap(b.Recs)], was)
	}
	got, _ = batch.Moved(b, base)
	clear(b.Recs[:cap(b.Recs)])
	if !alike(got, want) {
		t.Errorf("%s: once what was handed in was written into, the answer is %s, was %s", name, brief(got), brief(want))
	}
}

func TestP4_4MovedToOtherOffsets(t *testing.T) {
	m := whole()
	m.Base, m.Last, m.Recs[0].Off, m.Recs[1].Off = 20, 22, 20, 22
	moved(t, "up", whole(), 20, m, api.OK)
	m.Base, m.Last, m.Recs[0].Off, m.Recs[1].Off = 0, 2, 0, 2
	moved(t, "down", whole(), 0, m, api.OK)
	m.Base, m.Last, m.Recs[0].Off, m.Recs[1].Off = top-2, top, top-2, top
	moved(t, "up to the top", whole(), top-2, m, api.OK)
	moved(t, "where it is", whole(), 7, whole(), api.OK)
	c := end(api.Commit)
	c.Base, c.Last = top, top
	moved(t, "what ends a transaction, up to the top", end(api.Commit), top, c, api.OK)
	moved(t, "back from the top", c, 10, end(api.Commit), api.OK)

	for _, b := range mayBe() {
		for _, base := range []int{0, 1, 5, 63, 64, 1 << 39, top - 16, top - 15, top - 14, top - 1, top} {
			want := copied(b)
			want.Base, want.Last = base, base+(b.Last-b.Base)
			for i := range want.Recs {
				want.Recs[i].Off = base + (b.Recs[i].Off - b.Base)
			}
			e := wordsCheck(want)
			if e != api.OK {
				want = api.Batch{}
			}
			moved(t, "moved", b, base, want, e)
		}
	}
}

func TestP4_4MovedTellsWhichError(t *testing.T) {
	nowhere := []int{-1, -2, math.MinInt, top + 1, top + 2, math.MaxInt}
	for _, base := range nowhere {
		moved(t, "to out of range", whole(), base, api.Batch{}, api.ErrArg)
		moved(t, "to out of range, of a byte too many", sized(0, 2049), base, api.Batch{}, api.ErrArg)
		moved(t, "to out of range, of what may not be", api.Batch{Pid: -2}, base, api.Batch{}, api.ErrArg)
	}
	for _, base := range []int{top - 1, top} {
		moved(t, "to where Last is out of range", whole(), base, api.Batch{}, api.ErrArg)
		moved(t, "to where Last is out of range, without records", api.Batch{Last: 2}, base, api.Batch{}, api.ErrArg)
		moved(t, "to where Last is out of range, of a byte too many", sized(0, 2049), base, api.Batch{}, api.ErrBound)
	}
	for _, base := range []int{0, 63} {
		moved(t, "a byte too many", sized(0, 2049), base, api.Batch{}, api.ErrBound)
	}
	far := sized(64, 2049)
	moved(t, "a byte too many, that fits once it is moved", far, 0, api.Batch{}, api.ErrBound)
	near := sized(0, 2048)
	near.Base, near.Last = 63, 78
	for i := range near.Recs {
		near.Recs[i].Off = 63 + i
	}
	moved(t, "a batch of 2048 bytes, to where it has as many", sized(0, 2048), 63, near, api.OK)
	moved(t, "a batch of 2048 bytes, to where it has one more", sized(0, 2048), 64, api.Batch{}, api.ErrBound)
	moved(t, "a batch of 2048 bytes, to where it has five more", sized(0, 2048), top-15, api.Batch{}, api.ErrBound)
	moved(t, "a batch of 2048 bytes, to where Last is out of range", sized(0, 2048), top-14, api.Batch{}, api.ErrArg)
	for _, w := range mayNotBe() {
		moved(t, w.name, w.b, 0, api.Batch{}, api.ErrArg)
		moved(t, w.name, w.b, 3, api.Batch{}, api.ErrArg)
		moved(t, w.name, w.b, top, api.Batch{}, api.ErrArg)
	}
}

func TestP4_4Same(t *testing.T) {
	l := mayBe()
	for _, w := range mayNotBe() {
		l = append(l, w.b)
	}
	for i, a := range l {
		if !batch.Same(a, copied(a)) {
			t.Errorf("%s is not told the same as itself", brief(a))
		}
		for _, b := range l[:i] {
			if one, other, want := batch.Same(a, b), batch.Same(b, a), alike(a, b); one != want || other != want {
				t.Errorf("%s, %s: got %t, %t, want %t", brief(a), brief(b), one, other, want)
			}
		}
	}
	for i, how := range []func(b *api.Batch){
		func(b *api.Batch) { b.Base-- },
		func(b *api.Batch) { b.Last++ },
		func(b *api.Batch) { b.From++ },
		func(b *api.Batch) { b.Epoch++ },
		func(b *api.Batch) { b.Pid++ },
		func(b *api.Batch) { b.Gen++ },
		func(b *api.Batch) { b.Seq++ },
		func(b *api.Batch) { b.Txn = false },
		func(b *api.Batch) { b.Ctl = api.Commit },
		func(b *api.Batch) { b.Recs = nil },
		func(b *api.Batch) { b.Recs = b.Recs[:1] },
		func(b *api.Batch) { b.Recs = append(b.Recs, b.Recs[1]) },
		func(b *api.Batch) { b.Recs[0], b.Recs[1] = b.Recs[1], b.Recs[0] },
		func(b *api.Batch) { b.Recs[1].Off-- },
		func(b *api.Batch) { b.Recs[1].Key = "K" },
		func(b *api.Batch) { b.Recs[0].Val = "" },
		func(b *api.Batch) { b.Recs[1].Dead = false },
		func(b *api.Batch) { b.Recs[1].Stamp++ },
		func(b *api.Batch) { b.Recs[0].Stamp++ },
	} {
		b := whole()
		how(&b)
		if batch.Same(whole(), b) || batch.Same(b, whole()) {
			t.Errorf("%d: %s is told the same as %s", i, brief(b), brief(whole()))
		}
	}
	if a, b := (api.Batch{Pid: -1}), (api.Batch{Pid: -1, Recs: []api.Rec{}}); !batch.Same(a, b) || !batch.Same(b, a) {
		t.Error("a list that is nil, and one that is empty, are told unlike")
	}
}

func TestP4_5WhatIsPutIsGot(t *testing.T) {
	for _, b := range mayBe() {
		x, e := batch.Put(b)
		if e != api.OK {
			t.Fatalf("%s: got %d", brief(b), e)
		}
		got, next, e := batch.Get(slices.Concat(x, x, x), len(x))
		if !alike(got, b) || !batch.Same(got, b) || next != 2*len(x) || e != api.OK {
			t.Errorf("%s: got %s, %d, %d", brief(b), brief(got), next, e)
		}
		again, e := batch.Put(got)
		if !bytes.Equal(again, x) || e != api.OK || batch.Size(got) != len(x) {
			t.Errorf("%s is got, and put as %.60q, %d, was %.60q", brief(b), again, e, x)
		}
	}
}

func TestP4_5BytesAreOfOneBatchAlone(t *testing.T) {
	of := map[string]api.Batch{}
	look := func(b api.Batch) {
		x, e := batch.Put(b)
		if e != api.OK {
			return
		}
		if a, ok := of[string(x)]; ok && !alike(a, b) {
			t.Errorf("%.60q are %s, and %s", x, brief(a), brief(b))
		}
		of[string(x)] = b
	}
	for _, b := range mayBe() {
		look(b)
	}
	for base := range 3 {
		for last := range 3 {
			for k := range 1 << 8 {
				b := api.Batch{Base: base, Last: last, From: k & 1, Epoch: k >> 1 & 1, Pid: k>>2&3 - 1, Gen: k >> 4 & 1, Seq: k >> 5 & 1, Txn: k>>6&1 == 1}
				for b.Ctl = range 3 {
					b.Recs = nil
					look(b)
					b.Recs = []api.Rec{{Off: base, Stamp: k >> 7}}
					look(b)
					b.Recs = []api.Rec{{Off: last, Stamp: 1, Key: "k", Dead: k>>7 == 1}}
					look(b)
					b.Recs = []api.Rec{{Off: base}, {Off: last, Stamp: k >> 7}}
					look(b)
				}
			}
		}
	}
	if len(of) < 2000 {
		t.Errorf("%d batches: that looks at too little", len(of))
	}
}

func TestP4_5WithOneByteAnotherOneItIsNone(t *testing.T) {
	for _, b := range mayBe() {
		x := bytesOf(b)
		behind := slices.Concat(x, x, bytesOf(example()))
		for i := range x {
			was := x[i]
			for k := 1; k < 256; k++ {
				if len(x) > 60 && k&(k-1) != 0 {
					continue // of long ones a bit alone is changed
				}
				x[i], behind[i] = was^byte(k), was^byte(k)
				if got, next, e := batch.Get(x, 0); e == api.OK || next != 0 || !nothing(got) {
					t.Errorf("%s, byte %d is %d, not %d: got %s, %d, %d", brief(b), i, x[i], was, brief(got), next, e)
				}
				if got, next, e := batch.Get(behind, 0); e == api.OK || next != 0 || !nothing(got) {
					t.Errorf("%s, ahead of others, byte %d is %d, not %d: got %s, %d, %d", brief(b), i, x[i], was, brief(got), next, e)
				}
			}
			x[i], behind[i] = was, was
		}
	}
}

// What is ahead of a sum in a value, or what was written behind a batch, may be made so that it has its sum with another length.
func TestP4_5WithAnotherLengthThatHasItsSumItIsNone(t *testing.T) {
	b := example()
	b.Recs[0].Val = "0123456789abcdefghij"
	ahead := bytes.Index(bodyOf(b), []byte("4567"))
	part := sealed(bodyOf(b)[:ahead])
	sum := part[len(part)-4:]
	b.Recs[0].Val = "0123" + string(sum) + "89abcdefghij"
	x := stretched(bytesOf(b), ahead+4)
	if _, _, e := wordsGet(x, 0); e != api.ErrForm {
		t.Fatalf("the test's sum is not right: got %d", e)
	}
	get(t, "a shorter length, with its sum", x, nil, 0, api.Batch{}, 0, api.ErrForm)

	y := bytesOf(b)
	z := sealed(slices.Concat(y[4:], []byte("more")))
	if !bytes.Equal(z[4:len(y)], y[4:]) {
		t.Fatal("the test's bytes do not begin with the batch's")
	}
	get(t, "a longer length, with its sum", z, nil, 0, api.Batch{}, 0, api.ErrForm)
	get(t, "the length that it has", stretched(z, len(y)-4), nil, 0, b, len(y), api.OK)
}

func TestP4_5NothingFallsOverBytes(t *testing.T) {
	n := uint32(1)
	for many := range 3000 {
		b := make([]byte, many%70)
		for i := range b {
			n = n*1664525 + 1013904223
			b[i] = byte(n >> 24)
			if many%3 == 0 {
				b[i] &= byte(n >> 16 & 3)
			}
		}
		read(t, b)
		for at := range b {
			want, wantNext, wantE := wordsGet(b, at)
			got, next, e := batch.Get(b, at)
			if !alike(got, want) || next != wantNext || e != wantE {
				t.Fatalf("%q, at %d: got %s, %d, %d, want %s, %d, %d", b, at, brief(got), next, e, brief(want), wantNext, wantE)
			}
		}
	}
}
