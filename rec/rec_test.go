package rec_test

import (
	"bytes"
	"fmt"
	"math"
	"math/big"
	"slices"
	"strings"
	"testing"

	"watermeet/api"
	"watermeet/rec"
)

const top = 1 << 40 // as the chapter tells it, so that a limit that moves is seen

// outside are numbers that are not in range: just below, just above, and far.
var outside = []int{-1, -2, math.MinInt, math.MinInt + 1, top + 1, top + 2, math.MaxInt, math.MaxInt - 1}

func text(many int) string { return strings.Repeat("x", many) }

// brief tells a record, of long texts how many bytes they have alone.
func brief(r api.Rec) string {
	short := func(s string) string {
		if len(s) > 12 {
			return fmt.Sprintf("(%d bytes)", len(s))
		}
		return fmt.Sprintf("%q", s)
	}
	return fmt.Sprintf("{Off %d, Key %s, Val %s, Dead %t, Stamp %d}", r.Off, short(r.Key), short(r.Val), r.Dead, r.Stamp)
}

// roomy is bytes with room behind them, which is full of noughts: who reads on into it finds fields there.
func roomy(b []byte) []byte {
	x := append(slices.Clone(b), make([]byte, 80)...)
	return x[:len(b)]
}

// short is a number's short bytes, as layer 1's chapter tells them, worked out in great numbers.
func short(n *big.Int) []byte {
	u := new(big.Int).Lsh(new(big.Int).Abs(n), 1)
	if n.Sign() < 0 {
		u.Sub(u, big.NewInt(1))
	}
	var b []byte
	for u.BitLen() > 7 {
		b = append(b, byte(new(big.Int).And(u, big.NewInt(127)).Int64())+128)
		u.Rsh(u, 7)
	}
	return append(b, byte(u.Int64()))
}

func shortOf(n int) []byte { return short(big.NewInt(int64(n))) }

// put is Put of a record that may be, as the chapter tells it.
func put(r api.Rec, base, stamp int) []byte {
	b := slices.Concat(shortOf(r.Off-base), shortOf(r.Stamp-stamp), []byte{0})
	if r.Dead {
		b[len(b)-1] = 1
	}
	return slices.Concat(b, shortOf(len(r.Key)), []byte(r.Key), shortOf(len(r.Val)), []byte(r.Val))
}

// mayBe are records that may be, with all edges of their fields.
func mayBe() []api.Rec {
	var l []api.Rec
	numbers := []int{0, 1, 63, 64, 65, 8191, 8192, 1 << 39, top - 1, top}
	texts := []string{"", "a", "\x00", "\xff\x80 \n", "é日", text(63), text(64)}
	for i, off := range numbers {
		for j, stamp := range numbers {
			k, v := texts[(i+j)%len(texts)], texts[(i*3+j)%len(texts)]
			l = append(l, api.Rec{Off: off, Stamp: stamp, Key: k, Val: v})
			l = append(l, api.Rec{Off: off, Stamp: stamp, Key: texts[1+(i+j)%6], Dead: true})
		}
	}
	for _, k := range texts {
		for _, v := range texts {
			l = append(l, api.Rec{Off: 7, Stamp: 8, Key: k, Val: v})
		}
		if k != "" {
			l = append(l, api.Rec{Off: 7, Stamp: 8, Key: k, Dead: true})
		}
	}
	return l
}

// mayNotBe are records of which one thing is wrong, or more.
func mayNotBe() []api.Rec {
	l := []api.Rec{
		{Key: text(65)},
		{Val: text(65)},
		{Key: text(65), Val: text(65)},
		{Key: text(64), Val: text(65)},
		{Key: text(65), Val: text(64)},
		{Key: text(1000)},
		{Val: text(1000)},
		{Val: text(63) + "é"},
		{Dead: true},
		{Dead: true, Val: "v"},
		{Dead: true, Key: "k", Val: "v"},
		{Dead: true, Key: "k", Val: "\x00"},
		{Dead: true, Key: text(65)},
		{Dead: true, Key: text(64), Val: text(64)},
		{Dead: true, Off: top, Stamp: top},
	}
	for _, n := range outside {
		l = append(l, api.Rec{Off: n}, api.Rec{Stamp: n}, api.Rec{Off: n, Stamp: n}, api.Rec{Off: n, Key: "k", Dead: true}, api.Rec{Stamp: n, Key: "k", Val: "v"})
	}
	return l
}

// besides are numbers in range beside which records are put.
var besides = []int{0, 1, 2, 10, 100, 1 << 20, top - 1, top}

func TestP3_1Check(t *testing.T) {
	for _, r := range mayBe() {
		if e := rec.Check(r); e != api.OK {
			t.Errorf("%s may be: got %d", brief(r), e)
		}
	}
	for _, r := range mayNotBe() {
		if e := rec.Check(r); e != api.ErrArg {
			t.Errorf("%s may not be: got %d", brief(r), e)
		}
	}
}

func TestP3_2PutIsWrittenAsTheChapterTells(t *testing.T) {
	for _, x := range []struct {
		name        string
		r           api.Rec
		base, stamp int
		want        string
	}{
		{"the chapter's example", api.Rec{Off: 12, Stamp: 99, Key: "k", Val: "v"}, 10, 100, "\x04\x01\x00\x02k\x02v"},
		{"nothing", api.Rec{}, 0, 0, "\x00\x00\x00\x00\x00"},
		{"a key that is gone", api.Rec{Off: 5, Stamp: 6, Key: "ab", Dead: true}, 5, 5, "\x00\x02\x01\x04ab\x00"},
		{"no key", api.Rec{Off: 1, Stamp: 1, Val: "ab"}, 1, 1, "\x00\x00\x00\x00\x04ab"},
		{"a key, and an empty value", api.Rec{Off: 1, Stamp: 1, Key: "ab"}, 1, 1, "\x00\x00\x00\x04ab\x00"},
		{"below base and stamp", api.Rec{Off: 1, Stamp: 2}, 65, 67, "\x7f\x81\x01\x00\x00\x00"},
		{"far above", api.Rec{Off: top, Stamp: top}, 0, 0, "\x80\x80\x80\x80\x80\x40\x80\x80\x80\x80\x80\x40\x00\x00\x00"},
		{"far below", api.Rec{}, top, top, "\xff\xff\xff\xff\xff\x3f\xff\xff\xff\xff\xff\x3f\x00\x00\x00"},
		{"long texts", api.Rec{Key: text(64), Val: text(63)}, 0, 0, "\x00\x00\x00\x80\x01" + text(64) + "\x7e" + text(63)},
		{"a long key that is gone", api.Rec{Key: text(64), Dead: true}, 0, 0, "\x00\x00\x01\x80\x01" + text(64) + "\x00"},
	} {
		b, e := rec.Put(x.r, x.base, x.stamp)
		if string(b) != x.want || e != api.OK {
			t.Errorf("%s: got %q, %d, want %q", x.name, b, e, x.want)
		}
		if n := rec.Size(x.r, x.base, x.stamp); n != len(x.want) {
			t.Errorf("%s: got size %d, want %d", x.name, n, len(x.want))
		}
	}
	for i, r := range mayBe() {
		for _, base := range besides {
			stamp := besides[i%len(besides)]
			want := put(r, base, stamp)
			if b, e := rec.Put(r, base, stamp); !bytes.Equal(b, want) || e != api.OK {
				t.Errorf("%s beside %d, %d: got %v, %d, want %v", brief(r), base, stamp, b, e, want)
			}
			if n := rec.Size(r, base, stamp); n != len(want) {
				t.Errorf("%s beside %d, %d: got size %d, want %d", brief(r), base, stamp, n, len(want))
			}
		}
	}
}

func TestP3_2PutRefusesWhatMayNotBe(t *testing.T) {
	refused := func(r api.Rec, base, stamp int) {
		t.Helper()
		if b, e := rec.Put(r, base, stamp); b != nil || e != api.ErrArg {
			t.Errorf("%s beside %d, %d: got %v, %d", brief(r), base, stamp, b, e)
		}
		if n := rec.Size(r, base, stamp); n != 0 {
			t.Errorf("%s beside %d, %d: got size %d", brief(r), base, stamp, n)
		}
	}
	for i, r := range mayNotBe() {
		refused(r, 0, 0)
		refused(r, besides[i%len(besides)], top)
		refused(r, outside[i%len(outside)], 0)
	}
	for _, n := range outside {
		refused(api.Rec{Off: 1, Stamp: 1, Key: "k", Val: "v"}, n, 0)
		refused(api.Rec{Off: 1, Stamp: 1, Key: "k", Val: "v"}, 0, n)
		refused(api.Rec{Off: 1, Stamp: 1, Key: "k", Dead: true}, n, n)
	}
}

func TestP3_2PutAnswersNewBytes(t *testing.T) {
	r := api.Rec{Off: 12, Stamp: 99, Key: "key", Val: "value"}
	was, want := r, put(r, 10, 100)
	one, _ := rec.Put(r, 10, 100)
	clear(one[:cap(one)])
	two, _ := rec.Put(r, 10, 100)
	if !bytes.Equal(two, want) {
		t.Errorf("once its answer was written into, Put answers %v, want %v", two, want)
	}
	if r != was {
		t.Errorf("what was handed in is %s, was %s", brief(r), brief(was))
	}
}

// get fails, unless Get answers that, and leaves the bytes, and the room behind them, as they were.
func get(t *testing.T, name string, b []byte, at, base, stamp int, r api.Rec, next int, e api.Errno) {
	t.Helper()
	b = roomy(b)
	was := slices.Clone(b[:cap(b)])
	gotR, gotNext, gotE := rec.Get(b, at, base, stamp)
	if gotR != r || gotNext != next || gotE != e {
		t.Errorf("%s (%.40q.., %d, %d, %d): got %s, %d, %d, want %s, %d, %d", name, b, at, base, stamp, brief(gotR), gotNext, gotE, brief(r), next, e)
	}
	if !bytes.Equal(b[:cap(b)], was) {
		t.Errorf("%s: the bytes, and the room behind them, are %v, were %v", name, b[:cap(b)], was)
	}
}

func TestP3_3GetReadsFieldByField(t *testing.T) {
	for _, x := range []struct {
		name        string
		b           string
		at          int
		base, stamp int
		r           api.Rec
		next        int
	}{
		{"the chapter's example", "\x04\x01\x00\x02k\x02v", 0, 10, 100, api.Rec{Off: 12, Stamp: 99, Key: "k", Val: "v"}, 7},
		{"nothing", "\x00\x00\x00\x00\x00", 0, 0, 0, api.Rec{}, 5},
		{"nothing, beside others", "\x00\x00\x00\x00\x00", 0, 3, 4, api.Rec{Off: 3, Stamp: 4}, 5},
		{"between others", "ab\x02\x01\x01\x04ab\x00ab", 2, 0, 1, api.Rec{Off: 1, Key: "ab", Dead: true}, 9},
		{"the second of two", "\x00\x00\x00\x00\x00\x02\x04\x00\x00\x02v", 5, 0, 0, api.Rec{Off: 1, Stamp: 2, Val: "v"}, 11},
		{"up to the top", "\x80\x80\x80\x80\x80\x40\x80\x80\x80\x80\x80\x40\x00\x00\x00", 0, 0, 0, api.Rec{Off: top, Stamp: top}, 15},
		{"down to nought", "\xff\xff\xff\xff\xff\x3f\xff\xff\xff\xff\xff\x3f\x00\x00\x00", 0, top, top, api.Rec{}, 15},
		{"just below the top", "\x01\x01\x00\x00\x00", 0, top, top, api.Rec{Off: top - 1, Stamp: top - 1}, 5},
		{"long texts", "\x00\x00\x00\x80\x01" + text(64) + "\x80\x01" + text(64), 0, 0, 0, api.Rec{Key: text(64), Val: text(64)}, 135},
		{"a long key that is gone", "\x00\x00\x01\x80\x01" + text(64) + "\x00", 0, 0, 0, api.Rec{Key: text(64), Dead: true}, 70},
		{"texts of any bytes", "\x00\x00\x00\x04\x00\xff\x06\x80\n\xc3", 0, 0, 0, api.Rec{Key: "\x00\xff", Val: "\x80\n\xc3"}, 10},
	} {
		get(t, x.name, []byte(x.b), x.at, x.base, x.stamp, x.r, x.next, api.OK)
	}
}

func TestP3_3GetRefusesPlacesAndNumbers(t *testing.T) {
	b := []byte("\x02\x02\x00\x02k\x02v")
	for _, at := range []int{-1, math.MinInt, len(b) + 1, len(b) + 40, len(b) + 80, math.MaxInt} {
		get(t, "a place that is not there", b, at, 0, 0, api.Rec{}, 0, api.ErrArg)
	}
	for _, n := range outside {
		get(t, "a base", b, 0, n, 0, api.Rec{}, 0, api.ErrArg)
		get(t, "a stamp", b, 0, 0, n, api.Rec{}, 0, api.ErrArg)
		get(t, "both", b, 0, n, n, api.Rec{}, 0, api.ErrArg)
		get(t, "a base, ahead of missing bytes", b, len(b), n, 0, api.Rec{}, 0, api.ErrArg)
		get(t, "a stamp, ahead of a form", []byte("\x80\x00"), 0, 0, n, api.Rec{}, 0, api.ErrArg)
	}
	for _, n := range []int{-1, -5, -9} {
		get(t, "a base that the difference would mend", []byte("\x14\x14\x00\x00\x00"), 0, n, 0, api.Rec{}, 0, api.ErrArg)
		get(t, "a stamp that the difference would mend", []byte("\x14\x14\x00\x00\x00"), 0, 0, n, api.Rec{}, 0, api.ErrArg)
		get(t, "a base that the difference would mend", []byte("\x13\x13\x00\x00\x00"), 0, top-n, top, api.Rec{}, 0, api.ErrArg)
		get(t, "a stamp that the difference would mend", []byte("\x13\x13\x00\x00\x00"), 0, top, top-n, api.Rec{}, 0, api.ErrArg)
	}
	get(t, "at the end", b, len(b), 0, 0, api.Rec{}, 0, api.ErrShort)
	get(t, "just ahead of the end", b, len(b)-1, 0, 0, api.Rec{}, 0, api.ErrShort)
	get(t, "no bytes", nil, 0, 0, 0, api.Rec{}, 0, api.ErrShort)
	get(t, "no bytes, behind the end", nil, 1, 0, 0, api.Rec{}, 0, api.ErrArg)
	for _, base := range besides {
		get(t, "no bytes, beside what is in range", []byte{}, 0, base, besides[0], api.Rec{}, 0, api.ErrShort)
		get(t, "no bytes, beside what is in range", []byte{}, 0, besides[0], base, api.Rec{}, 0, api.ErrShort)
	}
}

func TestP3_3GetOfBytesCutShort(t *testing.T) {
	for i, r := range mayBe() {
		base, stamp := besides[i%len(besides)], besides[i/3%len(besides)]
		b := put(r, base, stamp)
		for n := range b {
			get(t, brief(r)+", cut short", b[:n], 0, base, stamp, api.Rec{}, 0, api.ErrShort)
		}
		two := append([]byte("\x00\x80"), b...)
		get(t, brief(r)+", cut short behind others", two[:len(two)-1], 2, base, stamp, api.Rec{}, 0, api.ErrShort)
	}
}

func TestP3_3GetTellsTheFirstError(t *testing.T) {
	long := strings.Repeat("\xff", 9)
	for _, x := range []struct {
		name, b string
		e       api.Errno
	}{
		{"a longer form of an offset", "\x80\x00\x00\x00\x00\x00", api.ErrForm},
		{"a longer form of a time", "\x00\x82\x00\x00\x00\x00", api.ErrForm},
		{"a longer form of a key's length", "\x00\x00\x00\x80\x00\x00", api.ErrForm},
		{"a longer form of a value's length", "\x00\x00\x00\x00\x82\x00v", api.ErrForm},
		{"an offset above an int", long + "\x02\x00\x00\x00\x00", api.ErrForm},
		{"a time above an int", "\x00" + long + "\x02\x00\x00\x00", api.ErrForm},
		{"an offset of eleven bytes", long + "\xff\x00\x00\x00\x00\x00", api.ErrForm},
		{"Dead is 2", "\x00\x00\x02\x00\x00", api.ErrForm},
		{"Dead is 128", "\x00\x00\x80\x00\x00", api.ErrForm},
		{"Dead is 129", "\x00\x00\x81\x00\x00", api.ErrForm},
		{"Dead is 255", "\x00\x00\xff\x00\x00", api.ErrForm},
		{"a key's length below 0", "\x00\x00\x00\x01\x00", api.ErrForm},
		{"a value's length below 0", "\x00\x00\x00\x00\x01", api.ErrForm},
		{"a key's length far below 0", "\x00\x00\x00" + long + "\x01\x00", api.ErrForm},
		{"a key of 65 bytes", "\x00\x00\x00\x82\x01" + text(65) + "\x00", api.ErrBound},
		{"a value of 65 bytes", "\x00\x00\x00\x00\x82\x01" + text(65), api.ErrBound},
		{"a key of 65 bytes that are missing", "\x00\x00\x00\x82\x01", api.ErrBound},
		{"a value of 65 bytes that are missing", "\x00\x00\x00\x00\x82\x01", api.ErrBound},
		{"a key far above 64", "\x00\x00\x00\xfe" + long[1:] + "\x01\x00", api.ErrBound},
		{"a key of 64 bytes, one missing", "\x00\x00\x00\x80\x01" + text(63), api.ErrShort},
		{"an offset that is not ended", "\x80\x80", api.ErrShort},
		{"an offset of nine bytes that is not ended", long, api.ErrShort},
		{"an offset's form, ahead of Dead's", "\x80\x00\x00\x02\x00\x00", api.ErrForm},
		{"Dead's form, ahead of a key's bound", "\x00\x00\x02\x82\x01", api.ErrForm},
		{"a key's bound, ahead of a value's form", "\x00\x00\x00\x82\x01" + text(65) + "\x01", api.ErrBound},
		{"a key's form, ahead of a value's bound", "\x00\x00\x00\x01\x82\x01", api.ErrForm},
		{"a key that is cut short, ahead of a value's form", "\x00\x00\x00\x06k\x01", api.ErrShort},
		{"a value's bound, ahead of what may not be", "\x01\x00\x00\x00\x82\x01", api.ErrBound},
		{"a value's form, ahead of what may not be", "\x00\x00\x01\x00\x01", api.ErrForm},
		{"missing bytes, ahead of what may not be", "\x01\x01\x01\x00", api.ErrShort},
		{"Dead's form, ahead of what may not be", "\x01\x01\x02\x00\x00", api.ErrForm},
		{"gone, without a key", "\x00\x00\x01\x00\x00", api.ErrArg},
		{"gone, without a key, with a value", "\x00\x00\x01\x00\x02v", api.ErrArg},
		{"gone, with a value", "\x00\x00\x01\x02k\x02v", api.ErrArg},
		{"an offset below 0", "\x01\x00\x00\x00\x00", api.ErrArg},
		{"a time below 0", "\x00\x01\x00\x00\x00", api.ErrArg},
		{"the lowest offset of all", long + "\x01\x00\x00\x00\x00", api.ErrArg},
		{"the highest offset of all", "\xfe" + long[1:] + "\x01\x00\x00\x00\x00", api.ErrArg},
		{"the lowest time of all", "\x00" + long + "\x01\x00\x00\x00", api.ErrArg},
		{"the highest time of all", "\x00\xfe" + long[1:] + "\x01\x00\x00\x00", api.ErrArg},
	} {
		get(t, x.name, []byte(x.b), 0, 0, 0, api.Rec{}, 0, x.e)
		get(t, x.name+", behind others", []byte("\x00\x80"+x.b), 2, 0, 0, api.Rec{}, 0, x.e)
	}
}

func TestP3_3GetOfDifferencesOutOfRange(t *testing.T) {
	for _, beside := range besides {
		for _, n := range []int{-1, -beside - 1, -beside, 0, top - beside, top - beside + 1, top + 1, math.MaxInt - beside, math.MaxInt - top, math.MaxInt, math.MinInt, math.MinInt + beside} {
			whole := new(big.Int).Add(big.NewInt(int64(beside)), big.NewInt(int64(n)))
			in := whole.Sign() >= 0 && whole.Cmp(big.NewInt(top)) <= 0
			d := shortOf(n)
			off := slices.Concat(d, []byte("\x02\x00\x02k\x02v"))
			stamp := slices.Concat([]byte("\x02"), d, []byte("\x00\x02k\x02v"))
			if in {
				k := int(whole.Int64())
				get(t, "an offset in range", off, 0, beside, 4, api.Rec{Off: k, Stamp: 5, Key: "k", Val: "v"}, len(off), api.OK)
				get(t, "a time in range", stamp, 0, 4, beside, api.Rec{Off: 5, Stamp: k, Key: "k", Val: "v"}, len(stamp), api.OK)
				continue
			}
			get(t, "an offset out of range", off, 0, beside, 4, api.Rec{}, 0, api.ErrArg)
			get(t, "a time out of range", stamp, 0, 4, beside, api.Rec{}, 0, api.ErrArg)
		}
	}
}

func TestP3_3GetAnswersNewTexts(t *testing.T) {
	r := api.Rec{Off: 12, Stamp: 99, Key: "key", Val: "value"}
	b := roomy(put(r, 10, 100))
	got, _, _ := rec.Get(b, 0, 10, 100)
	clear(b[:cap(b)])
	if got != r {
		t.Errorf("once its bytes were written into, the record is %s, was %s", brief(got), brief(r))
	}
}

// read is Get, as the chapters tell it, byte by byte and in whole numbers.
func read(b []byte, at, base, stamp int) (r api.Rec, next int, e api.Errno) {
	number := func() *big.Int {
		u := new(big.Int)
		for i := 0; e == api.OK; i++ {
			if at >= len(b) {
				e = api.ErrShort
				break
			}
			c := b[at]
			if i == 9 && c > 1 || i > 0 && c == 0 {
				e = api.ErrForm
				break
			}
			at++
			u.Add(u, new(big.Int).Lsh(big.NewInt(int64(c%128)), uint(7*i)))
			if c < 128 {
				break
			}
		}
		half, odd := new(big.Int).DivMod(u, big.NewInt(2), new(big.Int))
		if odd.Sign() > 0 {
			return half.Neg(half).Sub(half, big.NewInt(1))
		}
		return half
	}
	bytesOf := func() string {
		n := number()
		switch {
		case e != api.OK:
		case n.Sign() < 0:
			e = api.ErrForm
		case n.Cmp(big.NewInt(64)) > 0:
			e = api.ErrBound
		case n.Cmp(big.NewInt(int64(len(b)-at))) > 0:
			e = api.ErrShort
		default:
			at += int(n.Int64())
			return string(b[at-int(n.Int64()) : at])
		}
		return ""
	}
	off, when := number(), number()
	if e == api.OK && at >= len(b) {
		e = api.ErrShort
	}
	if e == api.OK && b[at] > 1 {
		e = api.ErrForm
	}
	if e == api.OK {
		r.Dead = b[at] == 1
		at++
	}
	r.Key, r.Val = bytesOf(), bytesOf()
	off.Add(off, big.NewInt(int64(base)))
	when.Add(when, big.NewInt(int64(stamp)))
	in := func(n *big.Int) bool { return n.Sign() >= 0 && n.Cmp(big.NewInt(top)) <= 0 }
	if e == api.OK && (!in(off) || !in(when) || r.Dead && (r.Key == "" || r.Val != "")) {
		e = api.ErrArg
	}
	if e != api.OK {
		return api.Rec{}, 0, e
	}
	r.Off, r.Stamp = int(off.Int64()), int(when.Int64())
	return r, at, api.OK
}

// each hands on all texts of up to so many of these bytes.
func each(of []byte, most int, call func(b []byte)) {
	var b []byte
	var on func()
	on = func() {
		call(b)
		if len(b) == most {
			return
		}
		for _, c := range of {
			b = append(b, c)
			on()
			b = b[:len(b)-1]
		}
	}
	on()
}

// TestP3_4 looks at all short texts of bytes that matter: each is told as the chapters tell it, and what is got is put as the very same bytes.
func TestP3_4NothingElseIsGot(t *testing.T) {
	got, refused := 0, 0
	each([]byte{0, 1, 2, 3, 4, 128, 129, 255}, 6, func(b []byte) {
		base, stamp := (len(b)*7+1)%3, len(b)%2
		want, wantNext, wantE := read(b, 0, base, stamp)
		r, next, e := rec.Get(b, 0, base, stamp)
		if r != want || next != wantNext || e != wantE {
			t.Fatalf("%v beside %d, %d: got %s, %d, %d, want %s, %d, %d", b, base, stamp, brief(r), next, e, brief(want), wantNext, wantE)
		}
		if e != api.OK {
			refused++
			return
		}
		got++
		if again, e := rec.Put(r, base, stamp); !bytes.Equal(again, b[:next]) || e != api.OK {
			t.Fatalf("%v is got as %s, and that put as %v, %d", b[:next], brief(r), again, e)
		}
	})
	if got < 400 || refused < 100000 {
		t.Errorf("%d were got, %d refused: that looks at too little", got, refused)
	}
}

func TestP3_4ChangedBytesAreAnotherRecordOrNone(t *testing.T) {
	for i, r := range mayBe() {
		base, stamp := besides[i%len(besides)], besides[i/2%len(besides)]
		b := put(r, base, stamp)
		for k := range b {
			for bit := range 8 {
				b[k] ^= 1 << bit
				want, wantNext, wantE := read(b, 0, base, stamp)
				got, next, e := rec.Get(b, 0, base, stamp)
				if got != want || next != wantNext || e != wantE {
					t.Fatalf("%.20q: got %s, %d, %d, want %s, %d, %d", b, brief(got), next, e, brief(want), wantNext, wantE)
				}
				if e == api.OK && got == r {
					t.Fatalf("%.20q, of which bit %d of byte %d was changed, is got as what it was", b, bit, k)
				}
				b[k] ^= 1 << bit
			}
		}
	}
}

func TestP3_4WhatIsPutIsGot(t *testing.T) {
	for i, r := range mayBe() {
		for _, base := range besides {
			stamp := besides[i%len(besides)]
			b, e := rec.Put(r, base, stamp)
			if e != api.OK {
				t.Fatalf("%s beside %d, %d: got %d", brief(r), base, stamp, e)
			}
			get(t, "alone", b, 0, base, stamp, r, len(b), api.OK)
			get(t, "between others", slices.Concat([]byte("ab"), b, []byte("c")), 2, base, stamp, r, 2+len(b), api.OK)
			twice := slices.Concat(b, b)
			get(t, "the first of two", twice, 0, base, stamp, r, len(b), api.OK)
			get(t, "the second of two", twice, len(b), base, stamp, r, len(twice), api.OK)
		}
	}
}

func TestP3_4MovedAlikeIsTheSameBytes(t *testing.T) {
	const base, stamp = 50, 60
	for _, r := range []api.Rec{{Off: 50, Stamp: 60}, {Off: 40, Stamp: 99, Key: "k", Val: "v"}, {Off: 90, Stamp: 31, Key: "k", Dead: true}, {Off: 100, Stamp: 100, Val: text(64)}} {
		b := put(r, base, stamp)
		for _, by := range []int{-31, -1, 1, 1000, 1 << 39, top - 100} {
			for _, late := range []int{-31, 0, 7, top - 100} {
				m := r
				m.Off, m.Stamp = r.Off+by, r.Stamp+late
				if got, e := rec.Put(m, base+by, stamp+late); !bytes.Equal(got, b) || e != api.OK {
					t.Errorf("%s moved by %d, %d: got %v, %d, want %v", brief(r), by, late, got, e, b)
				}
				get(t, "moved alike", b, 0, base+by, stamp+late, m, len(b), api.OK)
				if n := rec.Size(m, base+by, stamp+late); n != len(b) {
					t.Errorf("%s moved by %d, %d: got size %d, want %d", brief(r), by, late, n, len(b))
				}
			}
		}
	}
}
