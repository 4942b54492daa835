package crc_test

import (
	"bytes"
	"fmt"
	"math"
	"slices"
	"strings"
	"testing"

	"watermeet/api"
	"watermeet/crc"
)

// stepped does so many steps of a number, as the chapter's words tell them.
func stepped(n uint32, steps int) uint32 {
	for range steps {
		odd := n%2 == 1
		n /= 2
		if odd {
			n ^= 0xEDB88320
		}
	}
	return n
}

// sum is Sum, as the chapter's words tell it.
func sum(b []byte) uint32 {
	n := uint32(0xFFFFFFFF)
	for _, c := range b {
		n = stepped(n^uint32(c), 8)
	}
	return n ^ 0xFFFFFFFF
}

// mixed is bytes of many kinds, noughts among them.
func mixed(many int) []byte {
	b := make([]byte, many)
	for i := range b {
		b[i] = byte(i * i / 3 * (i % 7))
	}
	return b
}

// brief tells bytes, of long ones the last alone, where the sum and the room are.
func brief(b []byte) string {
	return fmt.Sprintf("%d bytes (.. %q)", len(b), b[max(0, len(b)-60):])
}

// roomy is bytes with room behind them, which is full of 99: who writes into it, or reads it, is seen.
func roomy(b []byte) []byte {
	x := append(slices.Clone(b), bytes.Repeat([]byte{99}, 40)...)
	return x[:len(b)]
}

// kept fails, unless a call leaves the bytes that it is handed, and the room behind them, as they were, and what it answers shares nothing with them.
func kept(t *testing.T, b []byte, call func(b []byte) []byte) {
	t.Helper()
	b = roomy(b)
	all := b[:cap(b)]
	was := slices.Clone(all)
	got := call(b)
	if !bytes.Equal(all, was) {
		t.Errorf("%s: what was handed in, and the room behind, is %s, was %s", brief(b), brief(all), brief(was))
	}
	told := slices.Clone(got)
	clear(all)
	if !bytes.Equal(got, told) {
		t.Errorf("%s: the answer was %s, and is %s, since what was handed in was written into", brief(was[:len(b)]), brief(told), brief(got))
	}
	copy(all, was)
	clear(got[:cap(got)])
	if !bytes.Equal(all, was) {
		t.Errorf("%s: what was handed in, and the room behind, is %s, since the answer was written into", brief(was[:len(b)]), brief(all))
	}
}

// texts are none, short ones, ones that are all alike, and longer ones than a segment.
func texts() [][]byte {
	l := [][]byte{nil, {}, {0}, {255}, {0, 0}, {0, 'a'}, {'a', 0}, []byte("a"), []byte("ab"), []byte("ba"), []byte("abc"), []byte("abcd"), []byte("123456789")}
	for _, n := range []int{1, 3, 4, 5, 31, 64, 300, 2048, api.MaxSeg, api.MaxSeg + 1, 10000} {
		l = append(l, make([]byte, n), bytes.Repeat([]byte{255}, n), mixed(n))
	}
	return l
}

func TestP2_1SumExamples(t *testing.T) {
	for _, x := range []struct {
		s string
		n uint32
	}{
		{"", 0},
		{"123456789", 0xCBF43926},
		{"123456789", 3421780262},
		{"a", 0xE8B7BE43},
		{"abc", 0x352441C2},
		{"\x00", 0xD202EF8D},
		{"\x00\x00", 0x41D912FF},
		{"\xff", 0xFF000000},
		{"\xff\xff\xff\xff", 0xFFFFFFFF},
		{strings.Repeat("\x00", 32), 0x190A55AD},
	} {
		if n := crc.Sum([]byte(x.s)); n != x.n {
			t.Errorf("%q: got %#x, want %#x", x.s, n, x.n)
		}
	}
	if n := crc.Sum(nil); n != 0 {
		t.Errorf("of none: got %#x", n)
	}
}

func TestP2_1SumIsAsItsWords(t *testing.T) {
	for c := range 256 {
		for _, b := range [][]byte{{byte(c)}, {byte(c), 0}, {0, byte(c)}, {'x', byte(c), 'y'}} {
			if n := crc.Sum(b); n != sum(b) {
				t.Errorf("%q: got %#x, want %#x", b, n, sum(b))
			}
		}
	}
	for _, b := range texts() {
		if n := crc.Sum(b); n != sum(b) {
			t.Errorf("%d bytes: got %#x, want %#x", len(b), n, sum(b))
		}
	}
}

func TestP2_1SumKeepsNothing(t *testing.T) {
	for _, b := range texts() {
		r := roomy(b)
		all := r[:cap(r)]
		was := slices.Clone(all)
		first, second := crc.Sum(r), crc.Sum(r)
		if first != sum(b) || second != first {
			t.Errorf("%d bytes, with room: got %#x, then %#x, want %#x", len(b), first, second, sum(b))
		}
		if !bytes.Equal(all, was) {
			t.Errorf("%d bytes: they were changed", len(b))
		}
	}
}

// halves are pairs of numbers for Join: bits alone, all of them, none.
func halves() [][2]uint32 {
	l := [][2]uint32{{0, 0}, {0, 9}, {7, 0}, {7, 9}, {math.MaxUint32, 0}, {math.MaxUint32, math.MaxUint32}, {0xEDB88320, 1}, {0xCBF43926, 0xE8B7BE43}}
	for i := range 32 {
		l = append(l, [2]uint32{1 << i, 0}, [2]uint32{1 << i, 1 << (31 - i)})
	}
	return l
}

func TestP2_2JoinIsAsItsWords(t *testing.T) {
	for _, x := range halves() {
		a := x[0]
		for n := range api.MaxSeg + 1 {
			if got := crc.Join(x[0], x[1], n); got != a^x[1] {
				t.Fatalf("%#x, %#x, %d: got %#x, want %#x", x[0], x[1], n, got, a^x[1])
			}
			a = stepped(a, 8)
		}
	}
}

func TestP2_2JoinEdges(t *testing.T) {
	for _, x := range []struct {
		name    string
		a, b    uint32
		n       int
		outcome uint32
	}{
		{"no bytes", 7, 9, 0, 14},
		{"no bytes of two that are alike", 9, 9, 0, 0},
		{"one byte", 1, 0, 1, 0x77073096},
		{"one byte, and a second number", 1, 2, 1, 0x77073094},
		{"the most", 1, 2, api.MaxSeg, stepped(1, 8*4096) ^ 2},
		{"one above the most", 1, 2, api.MaxSeg + 1, 0},
		{"one below the least", 1, 2, -1, 0},
		{"far below the least", 1, 2, math.MinInt, 0},
		{"one above the far lowest", 1, 2, math.MinInt + 1, 0},
		{"far above the most", 1, 2, math.MaxInt, 0},
		{"as many as go round in 32 bits", 1, 2, 1 << 32, 0},
		{"one more than goes round in 32 bits", 1, 2, 1<<32 + 1, 0},
		{"as many as go round in 64 bits, if they are taken eight times", 1, 2, 1 << 61, 0},
		{"as many as go round downward", 1, 2, -1 << 61, 0},
	} {
		if got := crc.Join(x.a, x.b, x.n); got != x.outcome {
			t.Errorf("%s: got %#x, want %#x", x.name, got, x.outcome)
		}
	}
}

// behind is bytes, and a number in four bytes behind them, the highest first.
func behind(b []byte, n uint32) []byte {
	return append(slices.Clone(b), byte(n>>24), byte(n>>16), byte(n>>8), byte(n))
}

func TestP2_3Seal(t *testing.T) {
	if s := crc.Seal([]byte("123456789")); string(s) != "123456789\xcb\xf4\x39\x26" {
		t.Errorf("got %q", s)
	}
	if s := crc.Seal(nil); string(s) != "\x00\x00\x00\x00" {
		t.Errorf("of none: got %q", s)
	}
	for _, b := range texts() {
		if s := crc.Seal(b); !bytes.Equal(s, behind(b, sum(b))) {
			t.Errorf("%d bytes: got %s", len(b), brief(s))
		}
		kept(t, b, crc.Seal)
	}
}

func TestP2_3Open(t *testing.T) {
	for _, b := range texts() {
		s := behind(b, sum(b))
		if x, e := crc.Open(s); !bytes.Equal(x, b) || e != api.OK {
			t.Errorf("%d bytes: got %s, %d", len(b), brief(x), e)
		}
		kept(t, s, func(s []byte) []byte {
			x, _ := crc.Open(s)
			return x
		})
	}
}

// refused fails, unless Open answers an error, and nothing beside it, and leaves the bytes as they were.
func refused(t *testing.T, name string, b []byte, want api.Errno) {
	t.Helper()
	was := slices.Clone(b)
	if x, e := crc.Open(b); len(x) != 0 || e != want {
		t.Errorf("%s: got %s, %d, want error %d", name, brief(x), e, want)
	}
	if !bytes.Equal(b, was) {
		t.Errorf("%s: the bytes were changed: %s, were %s", name, brief(b), brief(was))
	}
}

func TestP2_3OpenErrors(t *testing.T) {
	s := []byte("123456789\xcb\xf4\x39\x26")
	for _, x := range []struct {
		name string
		b    []byte
		e    api.Errno
	}{
		{"nil", nil, api.ErrShort},
		{"none", []byte{}, api.ErrShort},
		{"none, with room", roomy(s)[:0], api.ErrShort},
		{"one", []byte{0}, api.ErrShort},
		{"two", []byte{0, 0}, api.ErrShort},
		{"three", []byte{0, 0, 0}, api.ErrShort},
		{"three, with a fourth in the room behind", []byte{0, 0, 0, 0}[:3], api.ErrShort},
		{"four, not the sum of none", []byte{0, 0, 0, 1}, api.ErrSum},
		{"four of text alone", []byte("1234"), api.ErrSum},
		{"text without its sum", s[:9], api.ErrSum},
		{"the sum's last byte is missing", s[:12], api.ErrSum},
		{"the first byte is missing", s[1:], api.ErrSum},
		{"a byte more behind", append(slices.Clone(s), 0), api.ErrSum},
		{"a byte more ahead", append([]byte{0}, s...), api.ErrSum},
		{"the sum's lowest byte first", []byte("123456789\x26\x39\xf4\xcb"), api.ErrSum},
		{"the sum ahead", []byte("\xcb\xf4\x39\x26123456789"), api.ErrSum},
		{"the sum of other bytes", behind([]byte("123456789"), sum([]byte("12345678"))), api.ErrSum},
		{"all bits of the sum turned", behind([]byte("123456789"), ^sum([]byte("123456789"))), api.ErrSum},
		{"one bit wrong in all four bytes", behind([]byte("123456789"), 0x01010101^sum([]byte("123456789"))), api.ErrSum},
	} {
		refused(t, x.name, x.b, x.e)
	}
}

func TestP2_3OpenOneBitOfTheSum(t *testing.T) {
	for _, b := range texts() {
		for i := range 32 {
			refused(t, "one bit of the sum", behind(b, 1<<i^sum(b)), api.ErrSum)
		}
	}
}

func TestP2_4JoinOfSums(t *testing.T) {
	whole := mixed(api.MaxSeg + 5)
	want := crc.Sum(whole)
	for k := 5; k <= len(whole); k++ {
		if n := crc.Join(crc.Sum(whole[:k]), crc.Sum(whole[k:]), len(whole)-k); n != want {
			t.Fatalf("%d bytes, and %d behind: got %#x, want %#x", k, len(whole)-k, n, want)
		}
	}
	for _, a := range texts() {
		for _, b := range texts() {
			n := crc.Join(crc.Sum(a), crc.Sum(b), len(b))
			if want := crc.Sum(slices.Concat(a, b)); len(b) <= api.MaxSeg && n != want {
				t.Errorf("%d bytes, and %d behind: got %#x, want %#x", len(a), len(b), n, want)
			}
		}
	}
}

func TestP2_4WhatIsSealedIsOpened(t *testing.T) {
	for _, b := range texts() {
		once := crc.Seal(b)
		twice := crc.Seal(once)
		if x, e := crc.Open(once); !bytes.Equal(x, b) || e != api.OK {
			t.Errorf("%d bytes: got %s, %d", len(b), brief(x), e)
		}
		if x, e := crc.Open(twice); !bytes.Equal(x, once) || e != api.OK {
			t.Errorf("%d bytes, twice: got %s, %d", len(b), brief(x), e)
		}
	}
}

// opens tells whether what was sealed opens, when change is put on its bytes from a place on by exclusive or.
func opens(sealed []byte, at int, change ...byte) bool {
	b := slices.Clone(sealed)
	for i, c := range change {
		b[at+i] ^= c
	}
	x, e := crc.Open(b)
	return e != api.ErrSum || len(x) != 0
}

func TestP2_4OneByteChanged(t *testing.T) {
	for _, b := range [][]byte{{0}, []byte("123456789"), mixed(300)} {
		s := crc.Seal(b)
		for at := range b {
			for c := 1; c < 256; c++ {
				if opens(s, at, byte(c)) {
					t.Fatalf("%d bytes, with %d put on that at %d, are opened", len(b), c, at)
				}
			}
		}
	}
}

func TestP2_4TwoBytesChanged(t *testing.T) {
	s := crc.Seal([]byte("12345"))
	for at := range 4 {
		for c := 1; c < 1<<16; c++ {
			if opens(s, at, byte(c), byte(c>>8)) {
				t.Fatalf("with %#x put on those from %d on, they are opened", c, at)
			}
		}
	}
}

func TestP2_4FourBytesChanged(t *testing.T) {
	some := []byte{0, 1, 2, 16, 127, 128, 200, 255}
	for _, b := range [][]byte{[]byte("1234"), []byte("123456789"), make([]byte, 64), mixed(api.MaxSeg)} {
		s := crc.Seal(b)
		for i := 1; i < 8*8*8*8; i++ {
			change := []byte{some[i%8], some[i/8%8], some[i/64%8], some[i/512]}
			for _, at := range []int{0, (len(b) - 4) / 2, len(b) - 4} {
				if opens(s, at, change...) {
					t.Fatalf("%d bytes, with %v put on those from %d on, are opened", len(b), change, at)
				}
			}
		}
	}
}

func TestP2_4BytesOfTheTableChanged(t *testing.T) {
	b := mixed(64)
	s := crc.Seal(b)
	for _, n := range []uint32{0xEDB88320, 0x04C11DB7, 0x82F63B78, 0xFFFFFFFF} {
		for i := range 32 {
			c := n<<i | n>>(32-i)
			for at := range len(b) - 3 {
				if opens(s, at, byte(c>>24), byte(c>>16), byte(c>>8), byte(c)) {
					t.Fatalf("with %#x put on those from %d on, they are opened", c, at)
				}
			}
		}
	}
}
