package octet_test

import (
	"bytes"
	"math"
	"math/big"
	"slices"
	"strings"
	"testing"

	"watermeet/api"
	"watermeet/octet"
)

// roomy is bytes with room behind them, which is full of 99: who writes into it is seen.
func roomy(b ...byte) []byte {
	x := append(slices.Clone(b), bytes.Repeat([]byte{99}, 80)...)
	return x[:len(b)]
}

// isNew fails, unless what a call tells of b is want, b and the room behind it stay as they were, and neither of the two changes with the other.
func isNew(t *testing.T, name string, b, want []byte, call func(b []byte) []byte) {
	t.Helper()
	was := slices.Clone(b[:cap(b)])
	got := call(b)
	if !bytes.Equal(got, want) {
		t.Errorf("%q: got %v, want %v", name, got, want)
	}
	if !bytes.Equal(b[:cap(b)], was) {
		t.Errorf("%q: what was handed in is %v, was %v", name, b[:cap(b)], was)
	}
	for i := range b {
		b[i] ^= 255
	}
	if !bytes.Equal(got, want) {
		t.Errorf("%q: the answer changes with what was handed in: %v", name, got)
	}
	copy(b, was)
	for i := range got[:cap(got)] {
		got[:cap(got)][i] ^= 255
	}
	if !bytes.Equal(b[:cap(b)], was) {
		t.Errorf("%q: what was handed in changes with the answer: %v", name, b)
	}
}

func TestP1_1Put(t *testing.T) {
	const n = 0x0102030405060708
	for _, x := range []struct {
		name string
		n    uint64
		k    int
		tail []byte
	}{
		{"one byte", n, 1, []byte{8}},
		{"two bytes", n, 2, []byte{7, 8}},
		{"three bytes", n, 3, []byte{6, 7, 8}},
		{"four bytes", n, 4, []byte{5, 6, 7, 8}},
		{"five bytes", n, 5, []byte{4, 5, 6, 7, 8}},
		{"six bytes", n, 6, []byte{3, 4, 5, 6, 7, 8}},
		{"seven bytes", n, 7, []byte{2, 3, 4, 5, 6, 7, 8}},
		{"eight bytes", n, 8, []byte{1, 2, 3, 4, 5, 6, 7, 8}},
		{"nought", 0, 3, []byte{0, 0, 0}},
		{"the greatest", math.MaxUint64, 8, bytes.Repeat([]byte{255}, 8)},
		{"the greatest's lowest", math.MaxUint64, 2, []byte{255, 255}},
		{"the highest bit", 1 << 63, 8, []byte{128, 0, 0, 0, 0, 0, 0, 0}},
		{"no bytes", n, 0, nil},
		{"nine bytes", n, 9, nil},
		{"below none", n, -1, nil},
		{"far below none", n, math.MinInt, nil},
		{"far above eight", n, math.MaxInt, nil},
	} {
		put := func(b []byte) []byte { return octet.Put(b, x.n, x.k) }
		isNew(t, x.name, roomy(7, 0, 9), append([]byte{7, 0, 9}, x.tail...), put)
		isNew(t, x.name+", behind nothing", nil, x.tail, put)
		isNew(t, x.name+", behind nothing, with room", roomy(), x.tail, put)
	}
}

func TestP1_1Get(t *testing.T) {
	b := []byte{255, 1, 2, 3, 4, 5, 6, 7, 8, 0}
	for _, x := range []struct {
		name  string
		at, k int
		n     uint64
		e     api.Errno
	}{
		{"the first", 0, 1, 255, api.OK},
		{"two", 0, 2, 0xFF01, api.OK},
		{"three", 1, 3, 0x010203, api.OK},
		{"four", 2, 4, 0x02030405, api.OK},
		{"five", 1, 5, 0x0102030405, api.OK},
		{"six", 1, 6, 0x010203040506, api.OK},
		{"seven", 1, 7, 0x01020304050607, api.OK},
		{"eight", 1, 8, 0x0102030405060708, api.OK},
		{"eight, the highest bit", 0, 8, 0xFF01020304050607, api.OK},
		{"eight up to the end", 2, 8, 0x0203040506070800, api.OK},
		{"the last", 9, 1, 0, api.OK},
		{"no bytes", 0, 0, 0, api.ErrArg},
		{"nine bytes", 0, 9, 0, api.ErrArg},
		{"below none", 0, -1, 0, api.ErrArg},
		{"far below none", 0, math.MinInt, 0, api.ErrArg},
		{"far above eight", 0, math.MaxInt, 0, api.ErrArg},
		{"below the first", -1, 1, 0, api.ErrArg},
		{"far below the first", math.MinInt, 8, 0, api.ErrArg},
		{"nine bytes that are not there", 9, 9, 0, api.ErrArg},
		{"no bytes far beyond the end", math.MaxInt, 0, 0, api.ErrArg},
		{"eight, and one is missing", 3, 8, 0, api.ErrShort},
		{"two, and one is missing", 9, 2, 0, api.ErrShort},
		{"at the end", 10, 1, 0, api.ErrShort},
		{"behind the end", 11, 1, 0, api.ErrShort},
		{"far beyond the end", math.MaxInt, 1, 0, api.ErrShort},
		{"far beyond the end, eight", math.MaxInt, 8, 0, api.ErrShort},
		{"far beyond the end, by less", math.MaxInt - 7, 8, 0, api.ErrShort},
	} {
		was := slices.Clone(b)
		if n, e := octet.Get(b, x.at, x.k); n != x.n || e != x.e {
			t.Errorf("%s: got %d, %d, want %d, %d", x.name, n, e, x.n, x.e)
		}
		if !bytes.Equal(b, was) {
			t.Fatalf("%s: the bytes were changed: %v", x.name, b)
		}
	}
	for _, none := range [][]byte{nil, {}, roomy()} {
		if n, e := octet.Get(none, 0, 1); n != 0 || e != api.ErrShort {
			t.Errorf("of no bytes: got %d, %d", n, e)
		}
	}
	if n, e := octet.Get(roomy(1), 0, 2); n != 0 || e != api.ErrShort {
		t.Errorf("what lies in the room behind bytes is none of them: got %d, %d", n, e)
	}
}

// shorts are numbers and their short bytes, as the chapter tells them.
var shorts = []struct {
	n int
	b []byte
}{
	{0, []byte{0}},
	{-1, []byte{1}},
	{1, []byte{2}},
	{-2, []byte{3}},
	{63, []byte{126}},
	{-64, []byte{127}},
	{64, []byte{128, 1}},
	{-65, []byte{129, 1}},
	{300, []byte{216, 4}},
	{-300, []byte{215, 4}},
	{8191, []byte{254, 127}},
	{-8192, []byte{255, 127}},
	{8192, []byte{128, 128, 1}},
	{-8193, []byte{129, 128, 1}},
	{api.MaxOff, []byte{128, 128, 128, 128, 128, 64}},
	{1<<62 - 1, []byte{254, 255, 255, 255, 255, 255, 255, 255, 127}},
	{-1 << 62, []byte{255, 255, 255, 255, 255, 255, 255, 255, 127}},
	{1 << 62, []byte{128, 128, 128, 128, 128, 128, 128, 128, 128, 1}},
	{math.MaxInt, []byte{254, 255, 255, 255, 255, 255, 255, 255, 255, 1}},
	{math.MinInt, []byte{255, 255, 255, 255, 255, 255, 255, 255, 255, 1}},
}

func TestP1_2PutVar(t *testing.T) {
	for _, x := range shorts {
		put := func(b []byte) []byte { return octet.PutVar(b, x.n) }
		isNew(t, "behind three", roomy(7, 128, 9), append([]byte{7, 128, 9}, x.b...), put)
		isNew(t, "behind nothing", nil, x.b, put)
		isNew(t, "behind nothing, with room", roomy(), x.b, put)
	}
}

func TestP1_2GetVar(t *testing.T) {
	for _, x := range shorts {
		b := slices.Concat([]byte{200, 200}, x.b, []byte{200})
		was := slices.Clone(b)
		if n, next, e := octet.GetVar(b, 2); n != x.n || next != 2+len(x.b) || e != api.OK {
			t.Errorf("%v: got %d, %d, %d, want %d", x.b, n, next, e, x.n)
		}
		if n, next, e := octet.GetVar(x.b, 0); n != x.n || next != len(x.b) || e != api.OK {
			t.Errorf("%v alone: got %d, %d, %d, want %d", x.b, n, next, e, x.n)
		}
		if !bytes.Equal(b, was) {
			t.Errorf("%d: the bytes were changed: %v", x.n, b)
		}
	}
}

// long is nine bytes that say that one more comes, and those behind them.
func long(l ...byte) []byte {
	return append(bytes.Repeat([]byte{255}, 9), l...)
}

func TestP1_2GetVarErrors(t *testing.T) {
	for _, x := range []struct {
		name string
		b    []byte
		at   int
		e    api.Errno
	}{
		{"below the first", []byte{0}, -1, api.ErrArg},
		{"far below the first", []byte{0}, math.MinInt, api.ErrArg},
		{"below the first of none", nil, -1, api.ErrArg},
		{"of none", nil, 0, api.ErrShort},
		{"of none, with room", roomy(), 0, api.ErrShort},
		{"at the end", []byte{0}, 1, api.ErrShort},
		{"behind the end", []byte{0}, 2, api.ErrShort},
		{"far beyond the end", []byte{0}, math.MaxInt, api.ErrShort},
		{"the second is missing", []byte{128}, 0, api.ErrShort},
		{"the second is missing, with room", roomy(128), 0, api.ErrShort},
		{"the third is missing", []byte{128, 129}, 0, api.ErrShort},
		{"the tenth is missing", long(), 0, api.ErrShort},
		{"the second is nought", []byte{128, 0}, 0, api.ErrForm},
		{"the second is nought, the first was not", []byte{129, 0}, 0, api.ErrForm},
		{"the third is nought", []byte{128, 128, 0}, 0, api.ErrForm},
		{"the third is nought, more comes", []byte{128, 128, 0, 1}, 0, api.ErrForm},
		{"the tenth is nought", long(0), 0, api.ErrForm},
		{"the tenth is two", long(2), 0, api.ErrForm},
		{"the tenth is 127", long(127), 0, api.ErrForm},
		{"the tenth is 128", long(128), 0, api.ErrForm},
		{"the tenth is 129, and an eleventh comes", long(129, 1), 0, api.ErrForm},
		{"the tenth is 255", long(255), 0, api.ErrForm},
		{"the tenth from the third on is two", append([]byte{1, 1}, long(2)...), 2, api.ErrForm},
	} {
		was := slices.Clone(x.b)
		if n, next, e := octet.GetVar(x.b, x.at); n != 0 || next != 0 || e != x.e {
			t.Errorf("%s: got %d, %d, %d, want error %d", x.name, n, next, e, x.e)
		}
		if !bytes.Equal(x.b, was) {
			t.Errorf("%s: the bytes were changed: %v", x.name, x.b)
		}
	}
}

// texts are ordinary ones, and those that are hard: none, bytes that are no letters, as long as MaxText, longer than one byte tells.
var texts = []string{"", "a", "ab", "\x00", "\x80\xff\xfe", "grün", strings.Repeat("x", 63), strings.Repeat("\xff", api.MaxText), strings.Repeat("y", 300)}

func TestP1_3PutText(t *testing.T) {
	isNew(t, "two letters", roomy(5), []byte{5, 4, 'a', 'b'}, func(b []byte) []byte { return octet.PutText(b, "ab") })
	isNew(t, "no letters", roomy(5), []byte{5, 0}, func(b []byte) []byte { return octet.PutText(b, "") })
	for _, s := range texts {
		put := func(b []byte) []byte { return octet.PutText(b, s) }
		tail := append(octet.PutVar(nil, len(s)), s...)
		isNew(t, s, roomy(5, 0), append([]byte{5, 0}, tail...), put)
		isNew(t, s+" behind nothing", nil, tail, put)
		isNew(t, s+" behind nothing, with room", roomy(), tail, put)
	}
}

func TestP1_3GetText(t *testing.T) {
	for _, s := range texts {
		b := octet.PutText([]byte{255, 255}, s)
		end := len(b)
		b = append(b, 'z', 'z')
		was := slices.Clone(b)
		for _, most := range []int{len(s), len(s) + 1, math.MaxInt} {
			if got, next, e := octet.GetText(b, 2, most); got != s || next != end || e != api.OK {
				t.Errorf("%q, at most %d: got %q, %d, %d", s, most, got, next, e)
			}
			if got, next, e := octet.GetText(b[:end], 2, most); got != s || next != end || e != api.OK {
				t.Errorf("%q, with nothing behind, at most %d: got %q, %d, %d", s, most, got, next, e)
			}
		}
		for _, most := range []int{len(s) - 1, -1, math.MinInt} {
			if got, next, e := octet.GetText(b, 2, most); got != "" || next != 0 || e != api.ErrBound {
				t.Errorf("%q, at most %d: got %q, %d, %d", s, most, got, next, e)
			}
		}
		if !bytes.Equal(b, was) {
			t.Errorf("%q: the bytes were changed: %v", s, b)
		}
		got, _, _ := octet.GetText(b, 2, len(s))
		clear(b)
		if got != s {
			t.Errorf("%q: the text changes with the bytes: %q", s, got)
		}
	}
}

func TestP1_3GetTextErrors(t *testing.T) {
	least, greatest := octet.PutVar(nil, math.MinInt), octet.PutVar(nil, math.MaxInt)
	for _, x := range []struct {
		name     string
		b        []byte
		at, most int
		e        api.Errno
	}{
		{"below the first", []byte{0}, -1, 9, api.ErrArg},
		{"far below the first", []byte{0}, math.MinInt, 9, api.ErrArg},
		{"of none", nil, 0, 9, api.ErrShort},
		{"at the end", []byte{0}, 1, 9, api.ErrShort},
		{"far beyond the end", []byte{0}, math.MaxInt, 9, api.ErrShort},
		{"its number breaks off", []byte{128}, 0, 9, api.ErrShort},
		{"its number breaks off, and none may be", []byte{128}, 0, -1, api.ErrShort},
		{"its number is longer than it needs to be", []byte{128, 0}, 0, 9, api.ErrForm},
		{"its number has a tenth byte of two", long(2), 0, 9, api.ErrForm},
		{"it has fewer than no bytes", []byte{1, 'a'}, 0, 9, api.ErrForm},
		{"it has fewer than no bytes, and none may be", []byte{1}, 0, -9, api.ErrForm},
		{"it has the fewest bytes", least, 0, 9, api.ErrForm},
		{"one more than may be", []byte{4, 'a', 'b'}, 0, 1, api.ErrBound},
		{"one more than may be, and they are missing", []byte{4}, 0, 1, api.ErrBound},
		{"none, and fewer may be", []byte{0}, 0, -1, api.ErrBound},
		{"the most, and one less may be", greatest, 0, math.MaxInt - 1, api.ErrBound},
		{"all are missing", []byte{4}, 0, 2, api.ErrShort},
		{"one is missing", []byte{4, 'a'}, 0, 2, api.ErrShort},
		{"one is missing, with room", roomy(4, 'a'), 0, 2, api.ErrShort},
		{"one is missing behind others", []byte{9, 9, 4, 'a'}, 2, 9, api.ErrShort},
		{"the most, that are not there", append(greatest, 'a'), 0, math.MaxInt, api.ErrShort},
	} {
		was := slices.Clone(x.b)
		if s, next, e := octet.GetText(x.b, x.at, x.most); s != "" || next != 0 || e != x.e {
			t.Errorf("%s: got %q, %d, %d, want error %d", x.name, s, next, e, x.e)
		}
		if !bytes.Equal(x.b, was) {
			t.Errorf("%s: the bytes were changed: %v", x.name, x.b)
		}
	}
}

// numbers are those about each power of 2, on both sides of 0.
func numbers() []int {
	var l []int
	for i := range 64 {
		for d := -2; d <= 2; d++ {
			l = append(l, 1<<i+d, -(1<<i + d))
		}
	}
	return l
}

// shortBytes works the words of the chapter out in whole numbers without an end.
func shortBytes(n int) []byte {
	u := new(big.Int).Mul(big.NewInt(int64(n)), big.NewInt(2))
	if n < 0 {
		u.Neg(u).Sub(u, big.NewInt(1))
	}
	var l []byte
	for {
		low := new(big.Int)
		u.DivMod(u, big.NewInt(128), low)
		if u.Sign() == 0 {
			return append(l, byte(low.Int64()))
		}
		l = append(l, byte(low.Int64())+128)
	}
}

func TestP1_4WhatWasPutIsGot(t *testing.T) {
	head := []byte{128, 0, 255}
	for _, n := range numbers() {
		b := octet.PutVar(head, n)
		if !bytes.Equal(b, append(slices.Clone(head), shortBytes(n)...)) {
			t.Errorf("%d is %v", n, b)
		}
		if m, next, e := octet.GetVar(b, 3); m != n || next != len(b) || e != api.OK {
			t.Errorf("%d: got %d, %d, %d", n, m, next, e)
		}
		for k := 1; k <= 8; k++ {
			b := octet.Put(head, uint64(n), k)
			want := uint64(n) << (64 - 8*k) >> (64 - 8*k)
			if m, e := octet.Get(b, 3, k); m != want || e != api.OK || len(b) != 3+k || !bytes.Equal(b[:3], head) {
				t.Errorf("%d in %d: got %d, %d of %v", n, k, m, e, b)
			}
		}
	}
}

func TestP1_4OneBehindTheOther(t *testing.T) {
	var b []byte
	for i, n := range numbers() {
		b = octet.Put(octet.PutText(octet.PutVar(b, n), texts[i%len(texts)]), uint64(n), 8)
	}
	at := 0
	for i, n := range numbers() {
		m, next, e := octet.GetVar(b, at)
		if m != n || e != api.OK {
			t.Fatalf("at %d: got %d, %d, want %d", at, m, e, n)
		}
		s, next, e := octet.GetText(b, next, 300)
		if s != texts[i%len(texts)] || e != api.OK {
			t.Fatalf("at %d: got %q, %d", at, s, e)
		}
		if u, e := octet.Get(b, next, 8); u != uint64(n) || e != api.OK {
			t.Fatalf("at %d: got %d, %d, want %d", next, u, e, uint64(n))
		}
		at = next + 8
	}
	if at != len(b) {
		t.Errorf("%d bytes of %d were got", at, len(b))
	}
}

// oneWay fails, unless what is got of bytes, if it is, is what would be put.
func oneWay(t *testing.T, b []byte) {
	n, next, e := octet.GetVar(b, 0)
	if e != api.OK && (n != 0 || next != 0) {
		t.Fatalf("%v: got %d, %d beside error %d", b, n, next, e)
	}
	if e == api.OK && !bytes.Equal(shortBytes(n), b[:next]) {
		t.Fatalf("%v: got %d, which is %v", b, n, shortBytes(n))
	}
}

func TestP1_4OneWayToBeWritten(t *testing.T) {
	for i := range 1 << 16 {
		oneWay(t, []byte{byte(i), byte(i >> 8)})
	}
	some := []byte{0, 1, 2, 127, 128, 129, 254, 255}
	for size := range 12 {
		for _, first := range some {
			for _, last := range some {
				for _, more := range some {
					b := append(bytes.Repeat([]byte{first}, size), last, more)
					oneWay(t, b)
				}
			}
		}
	}
}
