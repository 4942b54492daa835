package batch_test

import (
	"bytes"
	"encoding/binary"
	"fmt"
	"hash/crc32"
	"math"
	"slices"
	"strings"

	"watermeet/api"
	"watermeet/rec"
)

// The limits as the chapter tells them, so that one that moves is seen.
const (
	top    = 1 << 40
	topGen = 1 << 20
)

// words has the chapter's words, followed slowly, and without the layers below but for what a record may be.

// wordsForm tells whether a batch has form.
func wordsForm(b api.Batch) bool {
	in := func(n, most int) bool { return n >= 0 && n <= most }
	if !in(b.Base, top) || !in(b.Last, top) || !in(b.From, top) || b.Base > b.Last {
		return false
	}
	more := b.Last - b.Base
	if more >= 16 || b.From+more > top {
		return false
	}
	if !in(b.Epoch, topGen) || !in(b.Gen, topGen) || !in(b.Seq, topGen) || b.Seq+more > topGen {
		return false
	}
	nobody := b.Pid == -1 && b.Gen == 0 && b.Seq == 0 && !b.Txn && b.Ctl == 0
	if !in(b.Pid, top) && !nobody {
		return false
	}
	if b.Ctl == 1 || b.Ctl == 2 {
		return more == 0 && len(b.Recs) == 0 && b.Txn && b.Pid >= 0
	}
	for i, r := range b.Recs {
		if rec.Check(r) != api.OK || r.Off < b.Base || r.Off > b.Last || i > 0 && r.Off <= b.Recs[i-1].Off {
			return false
		}
	}
	return b.Ctl == 0
}

func wordsCheck(b api.Batch) api.Errno {
	switch {
	case !wordsForm(b):
		return api.ErrArg
	case len(bytesOf(b)) > 2048:
		return api.ErrBound
	}
	return api.OK
}

// bodyOf is the body of a batch that has form, or of one that has it nearly.
func bodyOf(b api.Batch) []byte {
	var x []byte
	for _, n := range []int{b.Base, b.Last - b.Base, b.From, b.Epoch, b.Pid, b.Gen, b.Seq} {
		x = binary.AppendVarint(x, int64(n))
	}
	if b.Txn {
		x = append(x, byte(b.Ctl+4))
	} else {
		x = append(x, byte(b.Ctl))
	}
	x = binary.AppendVarint(x, int64(len(b.Recs)))
	for i, r := range b.Recs {
		if i == 0 {
			x = binary.AppendVarint(x, int64(r.Stamp))
		}
		x = binary.AppendVarint(x, int64(r.Off-b.Base))
		x = binary.AppendVarint(x, int64(r.Stamp-b.Recs[0].Stamp))
		if r.Dead {
			x = append(x, 1)
		} else {
			x = append(x, 0)
		}
		for _, s := range []string{r.Key, r.Val} {
			x = binary.AppendVarint(x, int64(len(s)))
			x = append(x, s...)
		}
	}
	return x
}

// sealed is a body, or what is handed in as one, with its length and its sum.
func sealed(body []byte) []byte {
	x := binary.BigEndian.AppendUint32(nil, uint32(len(body)+4))
	x = append(x, body...)
	return binary.BigEndian.AppendUint32(x, crc32.ChecksumIEEE(body))
}

func bytesOf(b api.Batch) []byte { return sealed(bodyOf(b)) }

func wordsGet(b []byte, at int) (api.Batch, int, api.Errno) {
	if at < 0 {
		return api.Batch{}, 0, api.ErrArg
	}
	if at > len(b) || len(b[at:]) < 4 {
		return api.Batch{}, 0, api.ErrShort
	}
	n := int(binary.BigEndian.Uint32(b[at:]))
	if n < 5 || n > 2044 {
		return api.Batch{}, 0, api.ErrForm
	}
	if len(b[at+4:]) < n {
		return api.Batch{}, 0, api.ErrShort
	}
	body, sum := b[at+4:at+n], b[at+n:at+4+n]
	if crc32.ChecksumIEEE(body) != binary.BigEndian.Uint32(sum) {
		return api.Batch{}, 0, api.ErrSum
	}
	x, ok := parsed(body)
	if !ok || wordsCheck(x) != api.OK || !bytes.Equal(bodyOf(x), body) {
		return api.Batch{}, 0, api.ErrForm
	}
	return x, at + 4 + n, api.OK
}

// parsed is the batch that a body begins with, longer forms of numbers let by.
func parsed(b []byte) (x api.Batch, ok bool) {
	ok = true
	number := func() int {
		n, k := binary.Varint(b)
		if k <= 0 {
			ok = false
			return 0
		}
		b = b[k:]
		return int(n)
	}
	several := func(n int) []byte {
		if n < 0 || n > len(b) {
			ok = false
			return make([]byte, 1)
		}
		s := b[:n]
		b = b[n:]
		return s
	}
	x.Base = number()
	x.Last = x.Base + number()
	x.From = number()
	x.Epoch = number()
	x.Pid = number()
	x.Gen = number()
	x.Seq = number()
	m := several(1)[0]
	x.Ctl, x.Txn = int(m%4+m/8*8), m/4%2 == 1
	many, stamp := number(), 0
	if many > 0 {
		stamp = number()
	}
	for ; many > 0 && ok; many-- {
		r := api.Rec{Off: x.Base + number(), Stamp: stamp + number()}
		dead := several(1)[0]
		r.Dead, ok = dead == 1, ok && dead < 2
		r.Key = string(several(number()))
		r.Val = string(several(number()))
		x.Recs = append(x.Recs, r)
	}
	return x, ok
}

func text(many int) string { return strings.Repeat("x", many) }

// brief tells a batch, of long texts how many bytes they have alone, and of many records the first ones.
func brief(b api.Batch) string {
	short := func(s string) string {
		if len(s) > 12 {
			return fmt.Sprintf("(%d bytes)", len(s))
		}
		return fmt.Sprintf("%q", s)
	}
	var l []string
	for _, r := range b.Recs[:min(3, len(b.Recs))] {
		l = append(l, fmt.Sprintf("{Off %d, Key %s, Val %s, Dead %t, Stamp %d}", r.Off, short(r.Key), short(r.Val), r.Dead, r.Stamp))
	}
	return fmt.Sprintf("{Base %d, Last %d, From %d, Epoch %d, Pid %d, Gen %d, Seq %d, Txn %t, Ctl %d, %d records: %s}",
		b.Base, b.Last, b.From, b.Epoch, b.Pid, b.Gen, b.Seq, b.Txn, b.Ctl, len(b.Recs), strings.Join(l, ", "))
}

// roomy is bytes with room behind them, which holds what more says, and noughts: who reads on into it finds something there.
func roomy(b, more []byte) []byte {
	x := slices.Concat(b, more, make([]byte, 40))
	return x[:len(b)]
}

// copied is a batch with a list of its own, behind whose end there is room that is not nought.
func copied(b api.Batch) api.Batch {
	if b.Recs != nil {
		n := len(b.Recs)
		b.Recs = append(slices.Clone(b.Recs), api.Rec{Off: 77, Key: "room", Stamp: 77})[:n]
	}
	return b
}

// example is the chapter's example; whole is one with all that a batch of data may have; end is what ends a transaction.
func example() api.Batch {
	return api.Batch{Pid: -1, Recs: []api.Rec{{Key: "a", Val: "b", Stamp: 5}}}
}

func whole() api.Batch {
	return api.Batch{Base: 7, Last: 9, From: 40, Epoch: 2, Pid: 3, Gen: 1, Seq: 4, Txn: true,
		Recs: []api.Rec{{Off: 7, Key: "k", Val: "v", Stamp: 100}, {Off: 9, Key: "k", Dead: true, Stamp: 90}}}
}

func end(ctl int) api.Batch {
	return api.Batch{Base: 10, Last: 10, From: 11, Epoch: 2, Pid: 3, Gen: 1, Seq: 4, Txn: true, Ctl: ctl}
}

// full is a batch with a record for each offset that it may have at most.
func full(base int, key, val string) api.Batch {
	b := api.Batch{Base: base, Last: base + 15, From: base, Pid: -1}
	for i := range 16 {
		b.Recs = append(b.Recs, api.Rec{Off: base + i, Key: key, Val: val, Stamp: i})
	}
	return b
}

// sized is a batch at that base that has so many bytes; 63 bytes of a text are the most whose length has one byte, so that none is left out on the way.
func sized(base, many int) api.Batch {
	b := full(base, text(64), text(63))
	for i := 0; len(bytesOf(b)) > many; i = (i + 1) % 16 {
		b.Recs[i].Val = b.Recs[i].Val[1:]
	}
	return b
}

// mayBe are batches that may be, with all edges of their fields.
func mayBe() []api.Batch {
	l := []api.Batch{
		example(), whole(), end(api.Commit), end(api.Abort),
		{},
		{Pid: -1},
		{Pid: -1, Last: 15},
		{Pid: -1, Base: top, Last: top, From: top, Epoch: topGen},
		{Pid: -1, Base: top - 15, Last: top, From: top - 15},
		{Base: top, Last: top, From: top, Epoch: topGen, Pid: top, Gen: topGen, Seq: topGen},
		{Base: top, Last: top, From: top, Epoch: topGen, Pid: top, Gen: topGen, Seq: topGen, Txn: true, Ctl: api.Abort},
		{Base: top - 15, Last: top, From: top - 15, Epoch: topGen, Pid: top, Gen: topGen, Seq: topGen - 15, Txn: true},
		{Base: top - 1, Last: top, From: top - 1, Pid: top - 1, Seq: topGen - 1},
		{Base: top, Last: top, Pid: -1, Recs: []api.Rec{{Off: top, Stamp: top}}},
		{Last: 2, Pid: -1, Recs: []api.Rec{{Off: 0}, {Off: 2}}},
		{Last: 2, Pid: -1, Recs: []api.Rec{{Off: 1}}},
		{Last: 2, Pid: -1, Recs: []api.Rec{{Off: 2, Stamp: top}}},
		{Last: 2, Pid: -1, Recs: []api.Rec{{Off: 0, Stamp: top}, {Off: 1, Stamp: 0}, {Off: 2, Stamp: top}}},
		{Last: 15, Pid: 0, Recs: []api.Rec{{Off: 15, Key: text(64), Val: text(64)}}},
		{Last: 1, Pid: 0, Recs: []api.Rec{{Off: 0, Key: text(64), Dead: true, Stamp: 3}, {Off: 1, Key: "\x00\xff", Val: "é\n", Stamp: 2}}},
		full(0, "", ""), full(5, "k", "v"), full(top-15, "", "v"),
		sized(0, 2048), sized(0, 2047), sized(40, 2046), sized(top-15, 2048), sized(1000, 1600),
	}
	for _, n := range []int{1, 63, 64, 65, 8191, 8192, topGen - 20} {
		l = append(l,
			api.Batch{Base: n, Last: n, From: 2 * n, Epoch: n, Pid: n, Gen: n, Seq: n},
			api.Batch{Base: n, Last: n + n%16, From: n + 1, Pid: n, Gen: n - 1, Seq: n + 1, Txn: true, Recs: []api.Rec{{Off: n, Stamp: n, Val: "v"}}},
			api.Batch{Base: n, Last: n, From: n - 1, Epoch: n - 1, Pid: n - 1, Gen: n, Seq: n - 1, Txn: true, Ctl: 1 + n%2},
			api.Batch{Base: n, Last: n + 15, From: 0, Pid: -1, Recs: []api.Rec{{Off: n + 3, Stamp: n}, {Off: n + 9, Stamp: 2 * n, Key: "k", Dead: true}}},
		)
	}
	return l
}

// wrong is a batch of which a thing is wrong, or more.
type wrong struct {
	name string
	b    api.Batch
}

// mayNotBe are batches that have not form.
func mayNotBe() []wrong {
	var l []wrong
	spoil := func(name string, b api.Batch, how func(b *api.Batch)) {
		how(&b)
		l = append(l, wrong{name, b})
	}
	for _, n := range []int{-1, -2, math.MinInt, math.MinInt + 1, top + 1, math.MaxInt, math.MaxInt - 1} {
		spoil(fmt.Sprint("Base, Last ", n), api.Batch{Pid: -1}, func(b *api.Batch) { b.Base, b.Last = n, n })
		spoil(fmt.Sprint("Base ", n), api.Batch{Pid: -1}, func(b *api.Batch) { b.Base = n })
		spoil(fmt.Sprint("Last ", n), api.Batch{Pid: -1}, func(b *api.Batch) { b.Last = n })
		spoil(fmt.Sprint("From ", n), whole(), func(b *api.Batch) { b.From = n })
		spoil(fmt.Sprint("a stamp ", n), whole(), func(b *api.Batch) { b.Recs[1].Stamp = n })
		spoil(fmt.Sprint("the first stamp ", n), whole(), func(b *api.Batch) { b.Recs[0].Stamp = n })
		spoil(fmt.Sprint("an offset ", n), whole(), func(b *api.Batch) { b.Recs[1].Off = n })
		if n != -1 {
			spoil(fmt.Sprint("Pid ", n), api.Batch{}, func(b *api.Batch) { b.Pid = n })
		}
	}
	for _, n := range []int{-1, -2, math.MinInt, topGen + 1, math.MaxInt} {
		spoil(fmt.Sprint("Epoch ", n), whole(), func(b *api.Batch) { b.Epoch = n })
		spoil(fmt.Sprint("Epoch, of no producer, ", n), api.Batch{Pid: -1}, func(b *api.Batch) { b.Epoch = n })
		spoil(fmt.Sprint("Gen ", n), whole(), func(b *api.Batch) { b.Gen = n })
		spoil(fmt.Sprint("Seq ", n), end(api.Commit), func(b *api.Batch) { b.Seq = n })
	}
	for _, n := range []int{-1, -4, 3, 4, 5, 255, 256, 257, 260, math.MinInt, math.MaxInt} {
		spoil(fmt.Sprint("Ctl ", n), api.Batch{}, func(b *api.Batch) { b.Ctl = n })
		spoil(fmt.Sprint("Ctl, in a transaction, ", n), end(api.Commit), func(b *api.Batch) { b.Ctl = n })
		spoil(fmt.Sprint("Ctl, of no producer, ", n), api.Batch{Pid: -1}, func(b *api.Batch) { b.Ctl = n })
	}
	for _, n := range []int{16, 17, 100} {
		spoil(fmt.Sprint(n, " offsets more"), api.Batch{Pid: -1}, func(b *api.Batch) { b.Last = n })
		spoil(fmt.Sprint(n, " offsets more, up to the top"), api.Batch{Pid: -1}, func(b *api.Batch) { b.Base, b.Last = top-n, top })
	}
	for _, n := range []int{1, 2, 15} {
		spoil(fmt.Sprint("Last above the top, ", n), api.Batch{}, func(b *api.Batch) { b.Base, b.Last = top-n+1, top+1 })
		spoil(fmt.Sprint("From, and offsets, above the top, ", n), api.Batch{Last: n}, func(b *api.Batch) { b.From = top - n + 1 })
		spoil(fmt.Sprint("From at the top, ", n), api.Batch{Last: n}, func(b *api.Batch) { b.From = top })
		spoil(fmt.Sprint("Seq, and offsets, above the top, ", n), api.Batch{Last: n}, func(b *api.Batch) { b.Seq = topGen - n + 1 })
		spoil(fmt.Sprint("Seq at the top, ", n), api.Batch{Last: n}, func(b *api.Batch) { b.Seq = topGen })
	}
	spoil("Last below Base", whole(), func(b *api.Batch) { b.Base, b.Last, b.Recs = 7, 6, nil })
	spoil("Last below Base, which lie as far apart as an int", api.Batch{Pid: -1}, func(b *api.Batch) { b.Base, b.Last = top, math.MinInt+top+5 })
	spoil("Last below Base, which lie so far apart that they come round", api.Batch{Pid: -1}, func(b *api.Batch) { b.Base, b.Last = math.MaxInt, math.MinInt })
	spoil("no producer, with Gen", api.Batch{Pid: -1}, func(b *api.Batch) { b.Gen = 1 })
	spoil("no producer, with Seq", api.Batch{Pid: -1}, func(b *api.Batch) { b.Seq = 1 })
	spoil("no producer, with Txn", api.Batch{Pid: -1}, func(b *api.Batch) { b.Txn = true })
	for _, ctl := range []int{api.Commit, api.Abort} {
		spoil(fmt.Sprint("no producer, with Ctl ", ctl), api.Batch{Pid: -1}, func(b *api.Batch) { b.Ctl = ctl })
		spoil(fmt.Sprint("no producer, with Txn and Ctl ", ctl), api.Batch{Pid: -1}, func(b *api.Batch) { b.Txn, b.Ctl = true, ctl })
		spoil(fmt.Sprint("no Txn, with Ctl ", ctl), end(ctl), func(b *api.Batch) { b.Txn = false })
		spoil(fmt.Sprint("a record, with Ctl ", ctl), end(ctl), func(b *api.Batch) { b.Recs = []api.Rec{{Off: 10}} })
		spoil(fmt.Sprint("Last above Base, with Ctl ", ctl), end(ctl), func(b *api.Batch) { b.Last++ })
		spoil(fmt.Sprint("Last below Base, with Ctl ", ctl), end(ctl), func(b *api.Batch) { b.Last-- })
	}
	for name, recs := range map[string][]api.Rec{
		"a record below Base":                 {{Off: 6}},
		"a record above Last":                 {{Off: 10}},
		"the second record above Last":        {{Off: 9}, {Off: 10}},
		"the second record below Base":        {{Off: 7}, {Off: 6}},
		"two records at one offset":           {{Off: 8}, {Off: 8}},
		"a record below the one ahead":        {{Off: 8}, {Off: 7}},
		"the third not above the second":      {{Off: 7}, {Off: 9}, {Off: 9}},
		"the third above the first alone":     {{Off: 7}, {Off: 9}, {Off: 8}},
		"gone, without a key":                 {{Off: 7, Dead: true}},
		"gone, with a value":                  {{Off: 7, Key: "k", Val: "v", Dead: true}},
		"the second gone, without a key":      {{Off: 7}, {Off: 8, Dead: true}},
		"a key of 65 bytes":                   {{Off: 7, Key: text(65)}},
		"a value of 65 bytes, of the last":    {{Off: 7}, {Off: 8}, {Off: 9, Val: text(65)}},
		"more records than there are offsets": {{Off: 7}, {Off: 8}, {Off: 9}, {Off: 10}},
		"17 records":                          append(full(7, "", "").Recs, api.Rec{Off: 23}),
		"very many records":                   make([]api.Rec, 1<<16),
	} {
		spoil(name, whole(), func(b *api.Batch) { b.Recs = recs })
	}
	return l
}
