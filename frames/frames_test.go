package frames_test

import (
	"bytes"
	"fmt"
	"math/rand"
	"slices"
	"testing"

	"watermeet/api"
	"watermeet/frames"
)

// answer is what Split and Feed tell.
type answer struct {
	l    [][]byte
	rest []byte
	e    api.Errno
}

var wrong = answer{e: api.ErrForm}

func (a answer) same(b answer) bool {
	return slices.EqualFunc(a.l, b.l, bytes.Equal) && bytes.Equal(a.rest, b.rest) && a.e == b.e
}

// String is short also where bodies are long.
func (a answer) String() string {
	var sizes []int
	for _, x := range a.l {
		sizes = append(sizes, len(x))
	}
	return fmt.Sprintf("%d bodies (of %v bytes: %.60v), rest %.60v, error %d", len(a.l), sizes, a.l, a.rest, a.e)
}

func split(b []byte) answer {
	l, rest, e := frames.Split(b)
	return answer{l, rest, e}
}

func feed(held, more []byte) answer {
	l, rest, e := frames.Feed(held, more)
	return answer{l, rest, e}
}

// words is Split by the chapter's words, one behind the other: it does not ask the program.
func words(b []byte) answer {
	var a answer
	for len(b) >= 4 {
		n := ((int(b[0])*256+int(b[1]))*256+int(b[2]))*256 + int(b[3])
		if n < 1 || n > 4096 {
			return wrong
		}
		if len(b) < 4+n {
			break
		}
		a.l = append(a.l, b[4:4+n])
		b = b[4+n:]
	}
	a.rest = b
	return a
}

// head is the four bytes that tell n, the highest first.
func head(n int) []byte { return []byte{byte(n >> 24), byte(n >> 16), byte(n >> 8), byte(n)} }

// framed is bodies' frames by the chapter's words: it does not ask the program.
func framed(bodies ...[]byte) []byte {
	var b []byte
	for _, x := range bodies {
		b = append(append(b, head(len(x))...), x...)
	}
	return b
}

// body is n bytes, in which a byte that is left out, doubled or moved shows.
func body(n int) []byte {
	x := make([]byte, n)
	for i := range x {
		x[i] = byte(i + i/256*3 + n)
	}
	return x
}

// roomy is bytes with room behind them, which is full of 99: who writes into it is seen.
func roomy(b []byte) []byte {
	x := append(slices.Clone(b), bytes.Repeat([]byte{99}, 5000)...)
	return x[:len(b)]
}

// stays fails, unless what is handed in is as it was when the call ends, and the room behind it too.
func stays(t *testing.T, name string, b []byte, call func(b []byte)) {
	t.Helper()
	x := roomy(b)
	was := slices.Clone(x[:cap(x)])
	call(x)
	if !bytes.Equal(x[:cap(x)], was) {
		t.Errorf("%s: what was handed in was changed, or the room behind it", name)
	}
}

// apart fails, if one of the lists, or the room behind it, changes with another one.
func apart(t *testing.T, name string, lists [][]byte) {
	t.Helper()
	was := make([][]byte, len(lists))
	for i, x := range lists {
		was[i] = slices.Clone(x[:cap(x)])
	}
	for i, x := range lists {
		all := x[:cap(x)]
		for k := range all {
			all[k] ^= 255
		}
		for k, y := range lists {
			if k != i && !bytes.Equal(y[:cap(y)], was[k]) {
				t.Errorf("%s: list %d changes with list %d", name, k, i)
			}
		}
		copy(all, was[i])
	}
}

// splits fails, unless Split tells that of the bytes, and leaves them as they were.
func splits(t *testing.T, name string, b []byte, want answer) {
	t.Helper()
	stays(t, name, b, func(b []byte) {
		if got := split(b); !got.same(want) {
			t.Errorf("%s: Split of %.60v tells %v, want %v", name, b, got, want)
		}
	})
}

// feeds fails, unless Feed tells that of the bytes, and leaves them as they were.
func feeds(t *testing.T, name string, held, more []byte, want answer) {
	t.Helper()
	stays(t, name, held, func(held []byte) {
		stays(t, name, more, func(more []byte) {
			if got := feed(held, more); !got.same(want) {
				t.Errorf("%s: Feed of %.60v (%d bytes) and %.60v tells %v, want %v", name, held, len(held), more, got, want)
			}
		})
	})
}

func TestP5_1Put(t *testing.T) {
	for _, x := range []struct {
		n    int
		head []byte
	}{
		{1, []byte{0, 0, 0, 1}},
		{2, []byte{0, 0, 0, 2}},
		{127, []byte{0, 0, 0, 127}},
		{128, []byte{0, 0, 0, 128}},
		{255, []byte{0, 0, 0, 255}},
		{256, []byte{0, 0, 1, 0}},
		{257, []byte{0, 0, 1, 1}},
		{511, []byte{0, 0, 1, 255}},
		{2048, []byte{0, 0, 8, 0}},
		{4095, []byte{0, 0, 15, 255}},
		{4096, []byte{0, 0, 16, 0}},
	} {
		for _, y := range [][]byte{body(x.n), make([]byte, x.n), bytes.Repeat([]byte{255}, x.n)} {
			stays(t, fmt.Sprint(x.n, " bytes"), y, func(y []byte) {
				got, e := frames.Put(y)
				if !bytes.Equal(got, append(slices.Clone(x.head), y...)) || e != api.OK {
					t.Errorf("%d bytes: got %.60v (%d bytes), error %d", x.n, got, len(got), e)
				}
			})
		}
	}
	if got, e := frames.Put([]byte("ab")); !bytes.Equal(got, []byte{0, 0, 0, 2, 'a', 'b'}) || e != api.OK {
		t.Errorf("the chapter's example: got %v, %d", got, e)
	}
	for n := 1; n <= 4096; n++ {
		if got, e := frames.Put(body(n)); !bytes.Equal(got, framed(body(n))) || e != api.OK {
			t.Fatalf("%d bytes: got %.60v, error %d", n, got, e)
		}
	}
}

func TestP5_1PutErrors(t *testing.T) {
	for _, y := range [][]byte{nil, {}, roomy(nil), body(4097), body(4098), body(8192), body(1 << 16), body(1<<16 + 1), make([]byte, 1<<24+1)} {
		was := slices.Clone(y[:cap(y)])
		if got, e := frames.Put(y); len(got) != 0 || e != api.ErrForm {
			t.Errorf("%d bytes: got %.60v, error %d", len(y), got, e)
		}
		if !bytes.Equal(y[:cap(y)], was) {
			t.Errorf("%d bytes: what was handed in was changed", len(y))
		}
	}
}

func TestP5_1PutIsNew(t *testing.T) {
	for _, n := range []int{1, 2, 3, 4, 5, 256, 4096} {
		y := roomy(body(n))
		one, _ := frames.Put(y)
		two, _ := frames.Put(y)
		apart(t, fmt.Sprint(n, " bytes"), [][]byte{y, one, two})
	}
}

func TestP5_2Split(t *testing.T) {
	ab, most := []byte("ab"), body(4096)
	for _, x := range []struct {
		name string
		b    []byte
		want answer
	}{
		{"the chapter's example", []byte{0, 0, 0, 2, 'a', 'b', 0, 0, 0, 2, 'a', 'b', 0, 0}, answer{l: [][]byte{ab, ab}, rest: []byte{0, 0}}},
		{"no bytes", nil, answer{}},
		{"one byte", []byte{0}, answer{rest: []byte{0}}},
		{"two bytes", []byte{0, 0}, answer{rest: []byte{0, 0}}},
		{"three bytes", []byte{0, 0, 0}, answer{rest: []byte{0, 0, 0}}},
		{"one byte, the greatest", []byte{255}, answer{rest: []byte{255}}},
		{"two bytes, the greatest", []byte{255, 255}, answer{rest: []byte{255, 255}}},
		{"three bytes, the greatest", []byte{255, 255, 255}, answer{rest: []byte{255, 255, 255}}},
		{"a frame", framed(ab), answer{l: [][]byte{ab}}},
		{"a frame of one byte", []byte{0, 0, 0, 1, 0}, answer{l: [][]byte{{0}}}},
		{"a frame of most bytes", framed(most), answer{l: [][]byte{most}}},
		{"two of most bytes", framed(most, most), answer{l: [][]byte{most, most}}},
		{"a body that looks like a frame", framed(framed(ab)), answer{l: [][]byte{framed(ab)}}},
		{"a body that looks like a wrong head", framed(head(0), head(4097), head(-1)), answer{l: [][]byte{head(0), head(4097), head(-1)}}},
		{"three frames, and three bytes that begin a wrong head", append(framed(ab, most, ab), 1, 2, 3), answer{l: [][]byte{ab, most, ab}, rest: []byte{1, 2, 3}}},
		{"one byte behind a frame", append(framed(ab), 7), answer{l: [][]byte{ab}, rest: []byte{7}}},
		{"a head, and nothing behind it", head(1), answer{rest: head(1)}},
		{"the greatest head, and nothing behind it", head(4096), answer{rest: head(4096)}},
		{"a frame without its last byte", framed(ab)[:5], answer{rest: framed(ab)[:5]}},
		{"the greatest without its last byte", framed(most)[:4099], answer{rest: framed(most)[:4099]}},
		{"a frame, and one without its last byte", framed(ab, ab)[:11], answer{l: [][]byte{ab}, rest: framed(ab)[:5]}},
		{"a rest that looks like a frame behind its head", append(head(7), framed(ab)...), answer{rest: append(head(7), framed(ab)...)}},
		{"a rest that looks like a wrong head behind its head", append(head(5), head(0)...), answer{rest: append(head(5), head(0)...)}},
		{"a head of nought", head(0), wrong},
		{"a head of one more than most", head(4097), wrong},
		{"a wrong head behind whole frames", append(framed(ab, most), head(0)...), wrong},
		{"a wrong head among whole frames", append(append(framed(ab), head(4097)...), framed(ab)...), wrong},
		{"a wrong head, and its bytes behind it", framed(body(4097)), wrong},
		{"an empty frame ahead of a whole one", framed(nil, ab), wrong},
	} {
		splits(t, x.name, x.b, x.want)
	}
	if got := split(roomy(framed(ab)[:5])); !got.same(answer{rest: framed(ab)[:5]}) {
		t.Errorf("what lies in the room behind bytes is none of them: got %v", got)
	}
}

// Each head that four bytes can tell about the edges is looked at with nothing behind it, with a byte, with a body's bytes but one, with all, and with one more.
func TestP5_2SplitByHeads(t *testing.T) {
	heads := []int{}
	for n := range 4200 {
		heads = append(heads, n)
	}
	for i := 12; i < 32; i++ {
		for _, low := range []int{0, 1, 2, 255, 256, 4095, 4096} {
			heads = append(heads, 1<<i-1, 1<<i+low, 1<<i|1<<31+low)
		}
	}
	for _, n := range append(heads, 1<<32-1, 1<<32-2, 0x7FFFFFFF, 0x80000000, 0x01010101, 0x00010001, 0x00110000) {
		for _, ahead := range [][]byte{nil, framed([]byte("ab")), framed([]byte{0}, body(300))} {
			for _, more := range []int{0, 1, n - 1, n, n + 1} {
				b := append(slices.Clone(ahead), head(n)...)
				b = append(b, body(max(0, min(more, 4300)))...)
				got, want := split(b), words(b)
				if !got.same(want) {
					t.Fatalf("a head of %d behind %d bytes, %d behind it: got %v, want %v", n, len(ahead), more, got, want)
				}
				if may := n >= 1 && n <= 4096; !may && !got.same(wrong) {
					t.Fatalf("a head of %d: got %v", n, got)
				}
			}
		}
	}
}

// shorts are all texts of those bytes of at most so many.
func shorts(letters []byte, most int, look func(b []byte)) {
	var grow func(b []byte)
	grow = func(b []byte) {
		look(b)
		if len(b) == most {
			return
		}
		for _, c := range letters {
			grow(append(b, c))
		}
	}
	grow(make([]byte, 0, most))
}

func TestP5_2SplitOfAllShortTexts(t *testing.T) {
	counts := map[string]int{}
	look := func(b []byte) {
		got, want := split(b), words(b)
		if !got.same(want) {
			t.Fatalf("%v: got %v, want %v", b, got, want)
		}
		counts[fmt.Sprint(len(want.l), want.e)]++
	}
	shorts([]byte{0, 1, 2}, 11, look)
	shorts([]byte{0, 1, 16, 17, 128, 255}, 6, look)
	if counts["0 0"] < 50 || counts["1 0"] < 50 || counts["2 0"] < 1 || counts["0 11"] < 1000 {
		t.Errorf("that looks at too little: %v", counts)
	}
}

func TestP5_2SplitIsNew(t *testing.T) {
	for _, x := range [][]byte{
		nil,
		{0, 0, 0},
		framed(body(1)),
		framed(body(1), body(2), body(3), body(4), body(5)),
		append(framed(body(1), body(7)), 0, 0, 0, 2, 1),
		append(framed(body(4096), body(4096)), 1, 2, 3),
		framed(body(4096))[:4099],
	} {
		b := roomy(x)
		one, two := split(b), split(b)
		if !one.same(words(x)) {
			t.Errorf("got %v, want %v", one, words(x))
		}
		lists := [][]byte{b, one.rest, two.rest}
		lists = append(lists, one.l...)
		apart(t, fmt.Sprint(len(x), " bytes"), append(lists, two.l...))
	}
}

// streams are bytes to be cut anywhere: whole frames, rests of each kind, and wrong heads.
func streams() [][]byte {
	few := framed(body(1), body(2), []byte{0, 0, 0, 1}, body(3), []byte{0, 0, 0, 0, 0})
	l := [][]byte{nil, few, framed(body(255), body(256), body(257)), framed(body(1), body(4096), body(1))}
	for _, tail := range [][]byte{{0}, {0, 0}, {0, 0, 0}, {0, 0, 0, 1}, {0, 0, 16, 0}, {0, 0, 0, 3, 1, 2}, {255}, {255, 255, 255}} {
		l = append(l, tail, slices.Concat(few, tail))
	}
	for _, n := range []int{0, 4097, 65536, 65537, 1 << 24, 1<<24 + 1, 1 << 31, 1<<32 - 1} {
		l = append(l, head(n), slices.Concat(few, head(n)), slices.Concat(few, head(n), few))
	}
	return l
}

func TestP5_3Feed(t *testing.T) {
	ab := []byte("ab")
	for _, x := range []struct {
		name       string
		held, more []byte
		want       answer
	}{
		{"nothing, and nothing behind it", nil, nil, answer{}},
		{"nothing, and a frame behind it", nil, framed(ab), answer{l: [][]byte{ab}}},
		{"nothing, and a part behind it", nil, []byte{0, 0}, answer{rest: []byte{0, 0}}},
		{"a frame, and nothing behind it", framed(ab), nil, answer{l: [][]byte{ab}}},
		{"a part, and nothing behind it", []byte{0, 0}, nil, answer{rest: []byte{0, 0}}},
		{"a head in two pieces", []byte{0, 0}, []byte{0, 2}, answer{rest: []byte{0, 0, 0, 2}}},
		{"a frame in two pieces", []byte{0, 0, 0, 2, 'a'}, []byte{'b'}, answer{l: [][]byte{ab}}},
		{"a frame in two pieces, and more", []byte{0, 0, 0}, []byte{2, 'a', 'b', 0}, answer{l: [][]byte{ab}, rest: []byte{0}}},
		{"a frame, and one", framed(ab), framed(ab), answer{l: [][]byte{ab, ab}}},
		{"a frame and a part, and the other part", append(framed(ab), 0, 0), []byte{0, 2, 'a', 'b'}, answer{l: [][]byte{ab, ab}}},
		{"a wrong head in two pieces", []byte{0, 0, 0}, []byte{0}, wrong},
		{"a wrong head in two other pieces", []byte{0}, []byte{0, 16, 1}, wrong},
		{"a wrong head that is held", head(0), framed(ab), wrong},
		{"a wrong head that is held, and nothing behind it", head(0), nil, wrong},
		{"a wrong head that comes", framed(ab), head(4097), wrong},
		{"a wrong head that comes alone", nil, head(4097), wrong},
		{"a frame in pieces, and a wrong head", framed(ab)[:3], slices.Concat(framed(ab)[3:], head(0)), wrong},
		{"what would be frames, each for itself", framed(ab)[:5], framed([]byte{1}), answer{l: [][]byte{{'a', 0}}, rest: []byte{0, 0, 1, 1}}},
	} {
		feeds(t, x.name, x.held, x.more, x.want)
	}
}

func TestP5_3FeedAtEachCut(t *testing.T) {
	for i, b := range streams() {
		want := words(b)
		for k := range len(b) + 1 {
			if len(b) < 200 {
				feeds(t, fmt.Sprint("stream ", i, " at ", k), b[:k], b[k:], want)
			} else if got := feed(b[:k], b[k:]); !got.same(want) {
				t.Fatalf("stream %d at %d: got %v, want %v", i, k, got, want)
			}
		}
	}
}

// The room behind what is held may have other bytes of its owner's, and among them those that come.
func TestP5_3FeedOfNeighbours(t *testing.T) {
	b := framed(body(3), body(9), body(2))
	was, want := slices.Clone(b), words(slices.Clone(b))
	for k := range len(b) + 1 {
		if got := feed(b[:k], b[k:]); !got.same(want) || !bytes.Equal(b, was) {
			t.Errorf("at %d: got %v, want %v; the bytes are %v, were %v", k, got, want, b, was)
		}
		twice := words(slices.Concat(b[:k], b[:k]))
		if got := feed(b[:k], b[:k]); !got.same(twice) || !bytes.Equal(b, was) {
			t.Errorf("the same %d bytes twice: got %v, want %v", k, got, twice)
		}
		back := words(slices.Concat(b[k:], b[:k]))
		if got := feed(b[k:], b[:k]); !got.same(back) || !bytes.Equal(b, was) {
			t.Errorf("from %d on, and those ahead: got %v, want %v", k, got, back)
		}
	}
}

func TestP5_3FeedIsNew(t *testing.T) {
	b := append(framed(body(1), body(7), body(4)), 0, 0, 0, 9, 5, 6)
	for _, x := range [][]byte{b, framed(body(6)), {0, 0, 0}, nil, framed(body(4096))[:4099]} {
		for k := range len(x) + 1 {
			if len(x) > 100 && k%64 != 0 {
				continue
			}
			held, more := roomy(x[:k]), roomy(x[k:])
			one, two := feed(held, more), feed(held, more)
			lists := [][]byte{held, more, one.rest, two.rest}
			lists = append(lists, one.l...)
			apart(t, fmt.Sprint(len(x), " bytes at ", k), append(lists, two.l...))
		}
	}
}

// pour feeds pieces one behind the other, with what is left over held for the next one; it tells all bodies up to an error, and how many pieces were taken without one.
func pour(pieces [][]byte) (a answer, took int) {
	for i, p := range pieces {
		x := feed(a.rest, p)
		a.l, a.rest, a.e = append(a.l, x.l...), x.rest, x.e
		if x.e != api.OK {
			return a, i
		}
	}
	return a, len(pieces)
}

// pieces cuts bytes behind each so many of them; the last piece may be shorter.
func pieces(b []byte, size int) [][]byte {
	return slices.Collect(slices.Chunk(b, size))
}

// ahead is what a stream tells up to its first wrong head, if it has one, and how many bytes it has up to there, with that head.
func ahead(b []byte) (answer, int) {
	for k := range len(b) + 1 {
		if words(b[:k]).e != api.OK {
			a := words(b[:k-1])
			return answer{l: a.l, e: api.ErrForm}, k
		}
	}
	return words(b), len(b)
}

func TestP5_4ByteByByte(t *testing.T) {
	for i, b := range streams() {
		if len(b) > 1000 {
			continue
		}
		for k := range len(b) + 1 {
			want, end := ahead(b[:k])
			got, took := pour(pieces(b[:k], 1))
			if !got.same(want) {
				t.Fatalf("stream %d, %d bytes of it: got %v, want %v", i, k, got, want)
			}
			if want.e != api.OK && took != end-1 {
				t.Fatalf("stream %d: the head that is wrong is told behind %d bytes, want %d", i, took, end-1)
			}
		}
	}
	most := framed(body(4096), body(4095), body(1))
	if got, _ := pour(pieces(most, 1)); !got.same(words(most)) {
		t.Errorf("the greatest, byte by byte: got %v", got)
	}
}

// A wrong head is told with the piece in which it is whole; the frames of the pieces ahead were told by then, those of that piece are not.
func TestP5_4InPiecesOfEachSize(t *testing.T) {
	for i, b := range streams() {
		_, end := ahead(b)
		for size := 1; size <= len(b)+1; size++ {
			if len(b) > 1000 && size%61 != 1 {
				continue
			}
			want, took := words(b), len(pieces(b, size))
			if want.e != api.OK {
				took = (end - 1) / size
				want.l = words(b[:took*size]).l
			}
			got, n := pour(pieces(b, size))
			if !got.same(want) || n != took {
				t.Fatalf("stream %d in pieces of %d: got %v behind %d pieces, want %v behind %d", i, size, got, n, want, took)
			}
		}
	}
}

func TestP5_4AtEachTwoCuts(t *testing.T) {
	b := append(framed(body(1), []byte{0, 0, 0, 1}, body(3)), 0, 0, 0, 2, 7)
	want := words(b)
	for i := range len(b) + 1 {
		for k := i; k <= len(b); k++ {
			if got, _ := pour([][]byte{b[:i], nil, b[i:k], b[k:], {}}); !got.same(want) {
				t.Fatalf("at %d and %d: got %v, want %v", i, k, got, want)
			}
		}
	}
}

func TestP5_4WhatIsFramedComesOut(t *testing.T) {
	r := rand.New(rand.NewSource(5))
	sizes := []int{1, 1, 2, 3, 4, 5, 8, 63, 255, 256, 257, 1000, 4095, 4096}
	for round := range 300 {
		var bodies [][]byte
		var b []byte
		for range r.Intn(8) {
			x := make([]byte, sizes[r.Intn(len(sizes))])
			for i := range x {
				x[i] = byte(r.Intn(256) * r.Intn(2))
			}
			f, e := frames.Put(x)
			if e != api.OK {
				t.Fatalf("round %d: a body of %d bytes: error %d", round, len(x), e)
			}
			bodies, b = append(bodies, x), append(b, f...)
		}
		tail := framed(body(1 + r.Intn(50)))
		tail = tail[:r.Intn(len(tail))]
		b = append(b, tail...)
		want := answer{l: bodies, rest: tail}
		splits(t, fmt.Sprint("round ", round), b, want)
		for range 5 {
			var cut [][]byte
			for left := b; len(left) > 0; {
				n := min(len(left), r.Intn(1<<r.Intn(13)))
				cut, left = append(cut, left[:n]), left[n:]
			}
			if got, _ := pour(cut); !got.same(want) {
				t.Fatalf("round %d, in %d pieces: got %v, want %v", round, len(cut), got, want)
			}
		}
	}
}
