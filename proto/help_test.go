package proto_test

import (
	"fmt"
	"math"
	"slices"
	"strings"
	"testing"

	"watermeet/api"
	"watermeet/proto"
)

// far are numbers about what may be, and far from it.
var far = []int{math.MinInt, math.MinInt + 1, -1 << 62, -top - 1, -top, -top + 1, -1 << 32, -256, -3, -2, -1, 0, 1, 2, 63, 64, 255, 256, 998, 999, 1000, 1 << 32, top - 1, top, top + 1, 1 << 41, 1 << 62, math.MaxInt - 1, math.MaxInt}

// sized are texts about what may be; what counts is their bytes, not their runes.
var sized = []string{"", "x", "\x00", "\xff\xfe", strings.Repeat("a", 63), strings.Repeat("b", 64), strings.Repeat("é", 32), strings.Repeat("\xff", 64), strings.Repeat("c", 65), strings.Repeat("é", 33), strings.Repeat("d", 66), strings.Repeat("e", 128), strings.Repeat("f", 5000)}

// blob is n bytes, in which a byte that is left out, doubled or moved shows.
func blob(n int) []byte {
	x := make([]byte, n)
	for i := range x {
		x[i] = byte(i + i/256*3 + n)
	}
	return x
}

// numbers are n numbers, each unlike the others.
func numbers(n int) []int {
	l := make([]int, n)
	for i := range l {
		l[i] = 60 + i*7
	}
	return l
}

// texts are n texts, each unlike the others.
func texts(n int) []string {
	l := make([]string, n)
	for i := range l {
		l[i] = strings.Repeat(string(rune('a'+i)), i%5)
	}
	return l
}

// reqs are requests that may be: of each kind and version with the least that it may have, with ordinary things, and with the most.
func reqs() []api.Req {
	var l []api.Req
	for kind := 1; kind <= 12; kind++ {
		ints, least, most, bytes := wordsHas(kind)
		for ver := range 3 {
			l = append(l,
				api.Req{Kind: kind, Ver: ver, Ints: slices.Repeat([]int{-1}, ints), Texts: make([]string, least)},
				api.Req{Kind: kind, Ver: ver, Id: 70, Ints: numbers(ints), Texts: texts((least + most) / 2), Blob: blob(min(3, bytes))},
				api.Req{Kind: kind, Ver: ver, Id: top, Ints: slices.Repeat([]int{top}, ints), Texts: slices.Repeat([]string{strings.Repeat("z", 64)}, most), Blob: blob(bytes)})
			if ver == 2 {
				for i, who := range []string{"w", "who", strings.Repeat("w", 64)} {
					r := l[len(l)-3+i]
					r.Who = who
					l = append(l, r)
				}
			}
		}
	}
	return l
}

// resps are answers that may be: of each kind and version with nothing, with ordinary things, and with the most.
func resps() []api.Resp {
	var l []api.Resp
	for kind := 1; kind <= 12; kind++ {
		for ver := range 3 {
			l = append(l,
				api.Resp{Kind: kind, Ver: ver},
				api.Resp{Kind: kind, Ver: ver, Id: 70, E: api.ErrRange, Wait: min(ver, 1) * 65, Ints: []int{-1, 0, 90}, Texts: texts(3), Blob: blob(3)},
				api.Resp{Kind: kind, Ver: ver, Id: top, E: 999, Wait: min(ver, 1) * top, Ints: append(slices.Repeat([]int{-top}, 32), slices.Repeat([]int{top}, 32)...), Texts: slices.Repeat([]string{strings.Repeat("z", 64)}, 16), Blob: blob(4096)})
		}
	}
	return l
}

// roomy is a list with room behind it, which is full of something else: who writes into it is seen.
func roomy[T any](l []T, other T) []T {
	x := append(slices.Clone(l), slices.Repeat([]T{other}, 300)...)
	return x[:len(l)]
}

// whole is a list, and the room behind it.
func whole[T any](l []T) []T { return l[:cap(l)] }

// scribble writes into a list, and the room behind it.
func scribble[T any](l []T, other T) {
	for i := range whole(l) {
		whole(l)[i] = other
	}
}

// cloned are lists of one's own: those handed in, with what is in the room behind them.
func cloned[T any](l []T) []T { return slices.Clone(whole(l))[:len(l)] }

// asked tells a request shortly, also where it is long.
func asked(r api.Req) string {
	return fmt.Sprintf("{kind %d ver %d id %d who %.70q; %d numbers %.80v; %d texts %.80q; %d bytes %.40v}", r.Kind, r.Ver, r.Id, r.Who, len(r.Ints), fmt.Sprint(r.Ints), len(r.Texts), fmt.Sprint(r.Texts), len(r.Blob), fmt.Sprint(r.Blob))
}

// answered tells an answer shortly, also where it is long.
func answered(r api.Resp) string {
	return fmt.Sprintf("{kind %d ver %d id %d error %d wait %d; %d numbers %.80v; %d texts %.80q; %d bytes %.40v}", r.Kind, r.Ver, r.Id, r.E, r.Wait, len(r.Ints), fmt.Sprint(r.Ints), len(r.Texts), fmt.Sprint(r.Texts), len(r.Blob), fmt.Sprint(r.Blob))
}

// checksReq fails, unless CheckReq tells e of a request, and PutReq that error, or the request's bytes.
func checksReq(t *testing.T, name string, r api.Req, e api.Errno) {
	t.Helper()
	if got := proto.CheckReq(r); got != e {
		t.Errorf("%s: CheckReq of %s tells %d, want %d", name, asked(r), got, e)
	}
	var want []byte
	if e == api.OK {
		want = reqBytes(r)
	}
	if b, got := proto.PutReq(r); got != e || !slices.Equal(b, want) {
		t.Errorf("%s: PutReq of %s tells %.60v (%d bytes), error %d, want %.60v, error %d", name, asked(r), b, len(b), got, want, e)
	}
}

// putsResp fails, unless PutResp tells e of an answer, or its bytes.
func putsResp(t *testing.T, name string, r api.Resp, e api.Errno) {
	t.Helper()
	var want []byte
	if e == api.OK {
		want = respBytes(r)
	}
	if b, got := proto.PutResp(r); got != e || !slices.Equal(b, want) {
		t.Errorf("%s: PutResp of %s tells %.60v (%d bytes), error %d, want %.60v, error %d", name, answered(r), b, len(b), got, want, e)
	}
}

// getsReq fails, unless GetReq tells that request, or that error and nothing else.
func getsReq(t *testing.T, name string, b []byte, want api.Req, e api.Errno) {
	t.Helper()
	if r, got := proto.GetReq(b); got != e || !sameReq(r, want) {
		t.Errorf("%s: GetReq of %.60v (%d bytes) tells %s, error %d, want %s, error %d", name, b, len(b), asked(r), got, asked(want), e)
	}
}

// getsResp fails, unless GetResp tells that answer, or that error and nothing else.
func getsResp(t *testing.T, name string, b []byte, want api.Resp, e api.Errno) {
	t.Helper()
	if r, got := proto.GetResp(b); got != e || !sameResp(r, want) {
		t.Errorf("%s: GetResp of %.60v (%d bytes) tells %s, error %d, want %s, error %d", name, b, len(b), answered(r), got, answered(want), e)
	}
}

// changed are bytes with one of them another one, or left out, or one put between them, and with two of them changed at once.
func changed(b []byte, look func(x []byte)) {
	for i := range b {
		x := slices.Clone(b)
		for c := range 256 {
			x[i] = byte(c)
			look(x)
		}
		look(slices.Delete(slices.Clone(b), i, i+1))
		if i+1 < len(b) {
			for _, c := range []byte{0, 1, 2, 127, 128, 129, 255} {
				for _, d := range []byte{0, 1, 2, 127, 128, 129, 255} {
					x[i], x[i+1] = c, d
					look(x)
				}
			}
		}
	}
	for i := range len(b) + 1 {
		for _, c := range []byte{0, 1, 2, 3, 5, 127, 128, 129, 130, 255} {
			look(slices.Insert(slices.Clone(b), i, c))
			look(slices.Insert(slices.Clone(b), i, c, 0))
			look(slices.Insert(slices.Clone(b), i, c, 1))
		}
	}
}

// shorts are all texts of those bytes of at most so many.
func shorts(letters []byte, most int, look func(b []byte)) {
	var grow func(b []byte)
	grow = func(b []byte) {
		look(b)
		if len(b) == most {
			return
		}
		for _, c := range letters {
			grow(append(b, c))
		}
	}
	grow(make([]byte, 0, most))
}
