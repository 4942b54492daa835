package proto_test

import (
	"fmt"
	"math"
	"math/rand"
	"slices"
	"strings"
	"testing"

	"watermeet/api"
	"watermeet/proto"
)

// told are answers, and their bytes.
var told = []struct {
	r api.Resp
	b string
}{
	{api.Resp{Kind: 1}, "\x01\x00\x00\x00\x00\x00\x00"},
	{api.Resp{Kind: 2, Ver: 1}, "\x02\x01\x00\x00\x00\x00\x00\x00"},
	{api.Resp{Kind: 12, Ver: 2}, "\x0c\x02\x00\x00\x00\x00\x00\x00"},
	{api.Resp{Kind: 6, Id: 1, E: api.ErrRange, Ints: []int{-1, 2}, Texts: []string{"a"}, Blob: []byte{9}}, "\x06\x00\x02\xb4\x01\x04\x01\x04\x02\x02a\x02\x09"},
	{api.Resp{Kind: 6, Ver: 1, Id: 1, E: api.ErrRange, Ints: []int{-1, 2}, Texts: []string{"a"}, Blob: []byte{9}}, "\x06\x01\x02\xb4\x01\x00\x04\x01\x04\x02\x02a\x02\x09"},
	{api.Resp{Kind: 3, Ver: 1, Id: 70, E: 999, Wait: 300, Ints: []int{300}, Texts: []string{"", "bc"}, Blob: []byte{1, 2}}, "\x03\x01\x8c\x01\xce\x0f\xd8\x04\x02\xd8\x04\x04\x00\x04bc\x04\x01\x02"},
	{api.Resp{Kind: 11, Ver: 2, Id: 3, E: 1, Wait: 5, Ints: []int{-top, top}}, "\x0b\x02\x06\x02\x0a\x04\xff\xff\xff\xff\xff\x3f\x80\x80\x80\x80\x80\x40\x00\x00"},
	{api.Resp{Kind: 7, Ver: 2, Texts: []string{"é"}}, "\x07\x02\x00\x00\x00\x00\x02\x04é\x00"},
	{api.Resp{Kind: 4, Blob: []byte("ab")}, "\x04\x00\x00\x00\x00\x00\x04ab"},
}

func TestP6_5PutResp(t *testing.T) {
	for _, x := range told {
		if b, e := proto.PutResp(x.r); string(b) != x.b || e != api.OK {
			t.Errorf("%s: got %v, error %d, want %v", answered(x.r), b, e, []byte(x.b))
		}
	}
	for _, r := range resps() {
		putsResp(t, "ordinary", r, api.OK)
	}
}

func TestP6_5PutRespOfEachLength(t *testing.T) {
	for n := range 4097 {
		putsResp(t, "bytes", api.Resp{Kind: 1 + n%12, Ver: n % 3, Id: n, Blob: blob(n)}, api.OK)
	}
	for n := range 1000 {
		putsResp(t, "errors", api.Resp{Kind: 1 + n%12, Ver: n % 3, E: api.Errno(n)}, api.OK)
	}
	for n := range 65 {
		putsResp(t, "numbers", api.Resp{Kind: 6, Ver: n % 3, Ints: numbers(n)}, api.OK)
		putsResp(t, "a text", api.Resp{Kind: 6, Ver: n % 3, Texts: []string{strings.Repeat("s", n)}}, api.OK)
	}
	for n := range 17 {
		putsResp(t, "texts", api.Resp{Kind: 6, Ver: n % 3, Texts: texts(n)}, api.OK)
	}
}

func TestP6_5Heads(t *testing.T) {
	for _, r := range resps() {
		for _, kind := range []int{0, -1, 13, 14, 255, 256, 256 + r.Kind, -r.Kind, 1<<32 + r.Kind, math.MinInt, math.MaxInt} {
			wrong := r
			wrong.Kind = kind
			putsResp(t, "a kind that is none", wrong, api.ErrKind)
			wrong.Ver = 3
			putsResp(t, "a kind that is none, and a version that is none", wrong, api.ErrKind)
			wrong.Ver, wrong.E, wrong.Wait = -1, -1, -1
			putsResp(t, "a kind that is none, and all else wrong", wrong, api.ErrKind)
		}
		for _, ver := range []int{-1, -2, 3, 4, 255, 256, 257, 258, 1 << 32, math.MinInt, math.MaxInt} {
			wrong := r
			wrong.Ver = ver
			putsResp(t, "a version that is none", wrong, api.ErrVersion)
			wrong.Id, wrong.E, wrong.Wait, wrong.Ints, wrong.Texts, wrong.Blob = -1, 1000, -1, numbers(65), texts(17), blob(4097)
			putsResp(t, "a version that is none, and all else wrong", wrong, api.ErrVersion)
		}
	}
	putsResp(t, "nothing at all", api.Resp{}, api.ErrKind)
}

func TestP6_5Numbers(t *testing.T) {
	for _, r := range resps() {
		for _, n := range far {
			x := r
			x.Id = n
			putsResp(t, "Id", x, either(n >= 0 && n <= 1<<40))
			x = r
			x.E = api.Errno(n)
			putsResp(t, "E", x, either(n >= 0 && n <= 999))
			x = r
			x.Wait = n
			putsResp(t, "Wait", x, either(n == 0 || r.Ver > 0 && n > 0 && n <= 1<<40))
			for i := range r.Ints {
				if i > 3 && i%20 != 3 {
					continue
				}
				x = r
				x.Ints = slices.Clone(r.Ints)
				x.Ints[i] = n
				putsResp(t, "a number", x, either(n >= -1<<40 && n <= 1<<40))
			}
		}
	}
}

func TestP6_5HowMany(t *testing.T) {
	for _, r := range resps() {
		for _, n := range []int{0, 1, 2, 15, 16, 17, 18, 63, 64, 65, 66, 128, 1000} {
			x := r
			x.Ints = numbers(n)
			putsResp(t, "numbers", x, either(n <= 64))
			x = r
			x.Texts = slices.Repeat([]string{"t"}, n)
			putsResp(t, "texts", x, either(n <= 16))
		}
		for _, n := range []int{0, 1, 2048, 2049, 4095, 4096, 4097, 8192, 1 << 16} {
			x := r
			x.Blob = blob(n)
			putsResp(t, "bytes", x, either(n <= 4096))
		}
		for i := range r.Texts {
			for _, s := range sized {
				x := r
				x.Texts = slices.Clone(r.Texts)
				x.Texts[i] = s
				putsResp(t, "a text", x, either(len(s) <= 64))
			}
		}
	}
}

func TestP6_5PutRespIsNew(t *testing.T) {
	for _, x := range resps() {
		r := x
		r.Ints, r.Texts, r.Blob = roomy(x.Ints, 99), roomy(x.Texts, "other"), roomy(x.Blob, 99)
		ints, strs, bytes := cloned(r.Ints), cloned(r.Texts), cloned(r.Blob)
		stayed := func() bool {
			return slices.Equal(whole(r.Ints), whole(ints)) && slices.Equal(whole(r.Texts), whole(strs)) && slices.Equal(whole(r.Blob), whole(bytes))
		}
		one, _ := proto.PutResp(r)
		two, _ := proto.PutResp(r)
		if !stayed() {
			t.Fatalf("%s: what was handed in was changed", answered(x))
		}
		was := slices.Clone(two)
		scribble(one, 77)
		if !stayed() || !slices.Equal(two, was) {
			t.Fatalf("%s: something changes with an answer", answered(x))
		}
		scribble(r.Ints, 55)
		scribble(r.Texts, "scribbled")
		scribble(r.Blob, 55)
		if !slices.Equal(two, was) {
			t.Fatalf("%s: an answer changes with what was handed in", answered(x))
		}
	}
}

func TestP6_6GetResp(t *testing.T) {
	for _, x := range told {
		getsResp(t, "by hand", []byte(x.b), x.r, api.OK)
	}
	for _, r := range resps() {
		getsResp(t, "ordinary", respBytes(r), r, api.OK)
	}
}

func TestP6_6CutOffAndLeftBehind(t *testing.T) {
	for _, r := range resps() {
		b := respBytes(r)
		for i := range b {
			getsResp(t, "cut off", b[:i:i], api.Resp{}, api.ErrShort)
			if i < 200 {
				getsResp(t, "cut off, with room behind it", roomy(b[:i], 1), api.Resp{}, api.ErrShort)
			}
		}
		for _, more := range [][]byte{{0}, {1}, {255}, {0, 0}, blob(3), b, blob(4096)} {
			getsResp(t, "something left", slices.Concat(b, more), api.Resp{}, api.ErrForm)
		}
	}
}

func TestP6_6Heads(t *testing.T) {
	getsResp(t, "no bytes", nil, api.Resp{}, api.ErrShort)
	getsResp(t, "no bytes, in a list", []byte{}, api.Resp{}, api.ErrShort)
	for kind := range 256 {
		getsResp(t, "one byte", []byte{byte(kind)}, api.Resp{}, api.ErrShort)
		for ver := range 256 {
			e := api.ErrShort
			switch {
			case kind == 0 || kind > 12:
				e = api.ErrKind
			case ver > 2:
				e = api.ErrVersion
			}
			getsResp(t, "a head", []byte{byte(kind), byte(ver)}, api.Resp{}, e)
			if e != api.ErrShort {
				getsResp(t, "a wrong head, and more", append([]byte{byte(kind), byte(ver)}, told[3].b[2:]...), api.Resp{}, e)
				getsResp(t, "a wrong head, and what is wrong too", []byte{byte(kind), byte(ver), 128, 0, 1}, api.Resp{}, e)
			}
		}
	}
}

// An answer's numbers and counts are put by hand here, as they may be wrong in ways that no answer has.
func TestP6_6WrongFields(t *testing.T) {
	big := strings.Repeat("x", 5000)
	zeros := func(n int) string { return strings.Repeat("\x00", n) }
	for _, x := range []struct {
		name, b string
		e       api.Errno
	}{
		{"Id not as short as it goes", "\x01\x00\x82\x00\x00\x00\x00\x00", api.ErrForm},
		{"E not as short as it goes", "\x01\x00\x00\x82\x00\x00\x00\x00", api.ErrForm},
		{"Wait not as short as it goes", "\x01\x01\x00\x00\x82\x00\x00\x00\x00", api.ErrForm},
		{"a count of numbers not as short as it goes", "\x01\x00\x00\x00\x80\x00\x00\x00", api.ErrForm},
		{"a number not as short as it goes", "\x01\x00\x00\x00\x02\x82\x00\x00\x00", api.ErrForm},
		{"a count of texts not as short as it goes", "\x01\x00\x00\x00\x00\x80\x00\x00", api.ErrForm},
		{"a text's length not as short as it goes", "\x01\x00\x00\x00\x00\x02\x82\x00a\x00", api.ErrForm},
		{"a count of bytes not as short as it goes", "\x01\x00\x00\x00\x00\x00\x82\x00a", api.ErrForm},
		{"a number with a tenth byte above 1", "\x01\x00\x00\x00\x02\xff\xff\xff\xff\xff\xff\xff\xff\xff\x02\x00\x00", api.ErrForm},
		{"a number with a tenth byte of 1", "\x01\x00\x00\x00\x02\xff\xff\xff\xff\xff\xff\xff\xff\xff\x01\x00\x00", api.ErrArg},
		{"Id of -1", "\x01\x00\x01\x00\x00\x00\x00", api.ErrArg},
		{"Id of 2^40", "\x01\x00\x80\x80\x80\x80\x80\x40\x00\x00\x00\x00", api.OK},
		{"Id of 2^40 + 1", "\x01\x00\x82\x80\x80\x80\x80\x40\x00\x00\x00\x00", api.ErrArg},
		{"E of -1", "\x01\x00\x00\x01\x00\x00\x00", api.ErrArg},
		{"E of 999", "\x01\x00\x00\xce\x0f\x00\x00\x00", api.OK},
		{"E of 1000", "\x01\x00\x00\xd0\x0f\x00\x00\x00", api.ErrArg},
		{"Wait of -1", "\x01\x01\x00\x00\x01\x00\x00\x00", api.ErrArg},
		{"Wait of 2^40", "\x01\x01\x00\x00\x80\x80\x80\x80\x80\x40\x00\x00\x00", api.OK},
		{"Wait of 2^40 + 1", "\x01\x02\x00\x00\x82\x80\x80\x80\x80\x40\x00\x00\x00", api.ErrArg},
		{"Wait in version 0", "\x01\x00\x00\x00\x00\x00\x00\x00", api.ErrForm},
		{"no Wait in version 1", "\x01\x01\x00\x00\x00\x00\x00", api.ErrShort},
		{"-1 numbers", "\x01\x00\x00\x00\x01\x00\x00", api.ErrForm},
		{"64 numbers", "\x01\x00\x00\x00\x80\x01" + zeros(64) + "\x00\x00", api.OK},
		{"64 numbers, of which one is missing", "\x01\x00\x00\x00\x80\x01" + zeros(63), api.ErrShort},
		{"65 numbers", "\x01\x00\x00\x00\x82\x01" + zeros(65) + "\x00\x00", api.ErrBound},
		{"65 numbers that are not there", "\x01\x00\x00\x00\x82\x01", api.ErrBound},
		{"2^62 numbers", "\x01\x00\x00\x00\x80\x80\x80\x80\x80\x80\x80\x80\x80\x01", api.ErrBound},
		{"no count of numbers", "\x01\x00\x00\x00", api.ErrShort},
		{"a number of -2^40", "\x01\x00\x00\x00\x02\xff\xff\xff\xff\xff\x3f\x00\x00", api.OK},
		{"a number of -2^40 - 1", "\x01\x00\x00\x00\x02\x81\x80\x80\x80\x80\x40\x00\x00", api.ErrArg},
		{"a number of 2^40", "\x01\x00\x00\x00\x02\x80\x80\x80\x80\x80\x40\x00\x00", api.OK},
		{"a number of 2^40 + 1", "\x01\x00\x00\x00\x02\x82\x80\x80\x80\x80\x40\x00\x00", api.ErrArg},
		{"-1 texts", "\x01\x00\x00\x00\x00\x01\x00", api.ErrForm},
		{"16 texts", "\x01\x00\x00\x00\x00\x20" + zeros(16) + "\x00", api.OK},
		{"16 texts, of which one is missing", "\x01\x00\x00\x00\x00\x20" + zeros(15), api.ErrShort},
		{"17 texts", "\x01\x00\x00\x00\x00\x22" + zeros(17) + "\x00", api.ErrBound},
		{"17 texts that are not there", "\x01\x00\x00\x00\x00\x22", api.ErrBound},
		{"no count of texts", "\x01\x00\x00\x00\x00", api.ErrShort},
		{"a text of -1 bytes", "\x01\x00\x00\x00\x00\x02\x01\x00", api.ErrForm},
		{"a text of 64 bytes", "\x01\x00\x00\x00\x00\x02\x80\x01" + big[:64] + "\x00", api.OK},
		{"a text of 65 bytes", "\x01\x00\x00\x00\x00\x02\x82\x01" + big[:65] + "\x00", api.ErrBound},
		{"a text of 65 bytes that are not there", "\x01\x00\x00\x00\x00\x02\x82\x01", api.ErrBound},
		{"a text of 64 bytes, of which one is missing", "\x01\x00\x00\x00\x00\x02\x80\x01" + big[:63], api.ErrShort},
		{"-1 bytes", "\x01\x00\x00\x00\x00\x00\x01", api.ErrForm},
		{"4096 bytes", "\x01\x00\x00\x00\x00\x00\x80\x40" + big[:4096], api.OK},
		{"4096 bytes, of which one is missing", "\x01\x00\x00\x00\x00\x00\x80\x40" + big[:4095], api.ErrShort},
		{"4097 bytes", "\x01\x00\x00\x00\x00\x00\x82\x40" + big[:4097], api.ErrBound},
		{"4097 bytes that are not there", "\x01\x00\x00\x00\x00\x00\x82\x40", api.ErrBound},
		{"no count of bytes", "\x01\x00\x00\x00\x00\x00", api.ErrShort},
		{"something left", "\x01\x00\x00\x00\x00\x00\x00\x00", api.ErrForm},
	} {
		want, e := wordsGetResp([]byte(x.b))
		if e != x.e {
			t.Errorf("%s: the slow reading tells %d, want %d", x.name, e, x.e)
		}
		getsResp(t, x.name, []byte(x.b), want, x.e)
	}
}

// Fields are looked at one behind the other, then whether something is left, and only then whether the answer may be.
func TestP6_6WhichErrorComesFirst(t *testing.T) {
	big := strings.Repeat("x", 100)
	for _, x := range []struct {
		name, b string
		e       api.Errno
	}{
		{"Id of -1, and bytes cut off", "\x01\x00\x01\x00\x00\x00\x04b", api.ErrShort},
		{"Id of -1, and -1 bytes", "\x01\x00\x01\x00\x00\x00\x01", api.ErrForm},
		{"Id of -1, and 4097 bytes", "\x01\x00\x01\x00\x00\x00\x82\x40", api.ErrBound},
		{"Id of -1, and something left", "\x01\x00\x01\x00\x00\x00\x00\x00", api.ErrForm},
		{"E of 1000, and 65 numbers", "\x01\x00\x00\xd0\x0f\x82\x01", api.ErrBound},
		{"E of 1000, and -1 numbers", "\x01\x00\x00\xd0\x0f\x01\x00\x00", api.ErrForm},
		{"E of 1000, and nothing behind it", "\x01\x00\x00\xd0\x0f", api.ErrShort},
		{"Wait of -1, and 17 texts", "\x01\x01\x00\x00\x01\x00\x22", api.ErrBound},
		{"Wait of -1, and something left", "\x01\x01\x00\x00\x01\x00\x00\x00\x00", api.ErrForm},
		{"a number beyond 2^40, and a text of -1 bytes", "\x01\x00\x00\x00\x02\x82\x80\x80\x80\x80\x40\x02\x01", api.ErrForm},
		{"65 numbers, and -1 texts", "\x01\x00\x00\x00\x82\x01" + strings.Repeat("\x00", 65) + "\x01", api.ErrBound},
		{"-1 numbers, and 17 texts", "\x01\x00\x00\x00\x01\x22", api.ErrForm},
		{"17 texts, and -1 bytes", "\x01\x00\x00\x00\x00\x22" + strings.Repeat("\x00", 17) + "\x01", api.ErrBound},
		{"a text of 65 bytes, and -1 bytes", "\x01\x00\x00\x00\x00\x02\x82\x01" + big[:65] + "\x01", api.ErrBound},
		{"a text of -1 bytes, and 4097 bytes", "\x01\x00\x00\x00\x00\x02\x01\x82\x40", api.ErrForm},
		{"a text of 65 bytes, and nothing behind it", "\x01\x00\x00\x00\x00\x02\x82\x01" + big[:65], api.ErrBound},
	} {
		getsResp(t, x.name, []byte(x.b), api.Resp{}, x.e)
	}
}

func TestP6_6ChangedBytes(t *testing.T) {
	counts := map[api.Errno]int{}
	look := func(b []byte) {
		want, e := wordsGetResp(b)
		counts[e]++
		r, got := proto.GetResp(b)
		if got != e || !sameResp(r, want) {
			t.Fatalf("GetResp of %v tells %s, error %d, want %s, error %d", b, answered(r), got, answered(want), e)
		}
	}
	for _, x := range told {
		changed([]byte(x.b), look)
	}
	for _, e := range []api.Errno{api.OK, api.ErrArg, api.ErrBound, api.ErrShort, api.ErrForm, api.ErrKind, api.ErrVersion} {
		if counts[e] < 100 {
			t.Errorf("that looks at too little: %v", counts)
		}
	}
}

func TestP6_6GetRespIsNew(t *testing.T) {
	for _, x := range resps() {
		b := roomy(respBytes(x), 99)
		was := cloned(b)
		one, _ := proto.GetResp(b)
		two, _ := proto.GetResp(b)
		scribble(one.Ints, 55)
		scribble(one.Texts, "scribbled")
		scribble(one.Blob, 55)
		if !slices.Equal(whole(b), whole(was)) {
			t.Fatalf("%s: what was handed in was changed, or changes with an answer", answered(x))
		}
		if !sameResp(two, x) {
			t.Fatalf("%s: an answer changes with another one", answered(x))
		}
		scribble(b, 77)
		if !sameResp(two, x) {
			t.Fatalf("%s: an answer changes with what was handed in: %s", answered(x), answered(two))
		}
	}
}

// bothWays fails, unless bytes tell what they tell by the chapter's words, and are put again, if something was got; it tells both errors.
func bothWays(t *testing.T, b []byte) (req, resp api.Errno) {
	t.Helper()
	wantReq, req := wordsGetReq(b)
	q, e := proto.GetReq(b)
	if e != req || !sameReq(q, wantReq) {
		t.Fatalf("GetReq of %v tells %s, error %d, want %s, error %d", b, asked(q), e, asked(wantReq), req)
	}
	if x, f := proto.PutReq(q); e == api.OK && (f != api.OK || !slices.Equal(x, b)) {
		t.Fatalf("%v is got, but put as %v, error %d", b, x, f)
	}
	wantResp, resp := wordsGetResp(b)
	a, e := proto.GetResp(b)
	if e != resp || !sameResp(a, wantResp) {
		t.Fatalf("GetResp of %v tells %s, error %d, want %s, error %d", b, answered(a), e, answered(wantResp), resp)
	}
	if x, f := proto.PutResp(a); e == api.OK && (f != api.OK || !slices.Equal(x, b)) {
		t.Fatalf("%v is got, but put as %v, error %d", b, x, f)
	}
	return req, resp
}

func TestP6_7AllShortTexts(t *testing.T) {
	reqs, resps := map[api.Errno]int{}, map[api.Errno]int{}
	look := func(b []byte) {
		req, resp := bothWays(t, b)
		reqs[req]++
		resps[resp]++
	}
	shorts([]byte{0, 1, 2}, 9, look)
	shorts([]byte{0, 1, 2, 5, 6, 7, 10, 13, 128, 255}, 5, look)
	for kind := 1; kind <= 12; kind++ {
		for ver := range 3 {
			shorts([]byte{0, 1, 2, 6, 128}, 5, func(b []byte) { look(slices.Concat([]byte{byte(kind), byte(ver)}, b)) })
			shorts([]byte{0, 2}, 9, func(b []byte) { look(slices.Concat([]byte{byte(kind), byte(ver)}, b)) })
		}
	}
	for _, counts := range []map[api.Errno]int{reqs, resps} {
		for _, e := range []api.Errno{api.OK, api.ErrArg, api.ErrShort, api.ErrForm, api.ErrKind, api.ErrVersion} {
			if counts[e] < 100 {
				t.Errorf("that looks at too little: %v, %v", reqs, resps)
			}
		}
	}
}

// near is a number that may be, or, seldom, one that may not.
func near(r *rand.Rand, least int) int {
	switch r.Intn(60) {
	case 0:
		return far[r.Intn(len(far))]
	case 1:
		return int(r.Uint64())
	case 2, 3, 4, 5, 6, 7:
		return least
	case 8, 9, 10, 11, 12, 13:
		return top
	}
	return r.Intn(1 << r.Intn(41))
}

// nearText is a text that may be, or, seldom, one that may not.
func nearText(r *rand.Rand) string {
	b := make([]byte, r.Intn(1<<r.Intn(7)))
	r.Read(b)
	if r.Intn(200) == 0 {
		return sized[r.Intn(len(sized))]
	}
	return string(b)
}

// nearMany is how many there are from least to most, or, seldom, one less or more.
func nearMany(r *rand.Rand, least, most int) int {
	return max(0, least+r.Intn(most-least+1)+[]int{-1, 0, 1}[r.Intn(3)]*(r.Intn(40)/39))
}

func nearReq(r *rand.Rand) api.Req {
	q := api.Req{Kind: 1 + r.Intn(12), Ver: r.Intn(3), Id: near(r, 0)}
	ints, least, most, bytes := wordsHas(q.Kind)
	if q.Ver == 2 || r.Intn(40) == 0 {
		q.Who = nearText(r)
	}
	for range nearMany(r, ints, ints) {
		q.Ints = append(q.Ints, near(r, -1))
	}
	for range nearMany(r, least, most) {
		q.Texts = append(q.Texts, nearText(r))
	}
	q.Blob = blob(nearMany(r, 0, bytes))
	return q
}

func nearResp(r *rand.Rand) api.Resp {
	a := api.Resp{Kind: 1 + r.Intn(12), Ver: r.Intn(3), Id: near(r, 0), E: api.Errno(r.Intn(1001))}
	if a.Ver > 0 || r.Intn(40) == 0 {
		a.Wait = near(r, 0)
	}
	for range nearMany(r, 0, []int{4, 64}[r.Intn(8)/7]) {
		a.Ints = append(a.Ints, near(r, -top))
	}
	for range nearMany(r, 0, 16) {
		a.Texts = append(a.Texts, nearText(r))
	}
	a.Blob = blob(nearMany(r, 0, []int{9, 4096}[r.Intn(8)/7]))
	return a
}

// What is put is got; of what is not put the error is told that the chapter names.
func TestP6_7WhatIsPutIsGot(t *testing.T) {
	r := rand.New(rand.NewSource(67))
	counts := map[string]int{}
	for range 20000 {
		q := nearReq(r)
		e := wordsCheckReq(q)
		counts[fmt.Sprint("request ", e)]++
		checksReq(t, "at random", q, e)
		if e == api.OK {
			b, _ := proto.PutReq(q)
			getsReq(t, "at random", b, q, api.OK)
		} else if b := reqBytes(q); len(b) < 300 {
			bothWays(t, b)
		}
		a := nearResp(r)
		e = wordsCheckResp(a)
		counts[fmt.Sprint("answer ", e)]++
		putsResp(t, "at random", a, e)
		if e == api.OK {
			b, _ := proto.PutResp(a)
			getsResp(t, "at random", b, a, api.OK)
		} else if b := respBytes(a); len(b) < 300 {
			bothWays(t, b)
		}
	}
	for _, k := range []string{"request 0", "request 1", "answer 0", "answer 1"} {
		if counts[k] < 2000 {
			t.Errorf("that looks at too little: %v", counts)
		}
	}
}

// Of any bytes something is told: of those that nobody put, and of those that were put and then changed in several places.
func TestP6_7AnyBytes(t *testing.T) {
	r := rand.New(rand.NewSource(76))
	for range 60000 {
		b := make([]byte, r.Intn(40))
		r.Read(b)
		if len(b) >= 2 && r.Intn(4) > 0 {
			b[0], b[1] = byte(1+r.Intn(12)), byte(r.Intn(3))
		}
		for i := range b {
			if r.Intn(2) == 0 {
				b[i] &= 15
			}
		}
		bothWays(t, b)
	}
	for round := range 20000 {
		b := reqBytes(nearReq(r))
		if round%2 == 0 {
			b = respBytes(nearResp(r))
		}
		for range 1 + r.Intn(4) {
			i := min(r.Intn(len(b)), r.Intn(60))
			switch r.Intn(4) {
			case 0:
				b[i] ^= 1 << r.Intn(8)
			case 1:
				b[i] = byte(r.Intn(5))
			case 2:
				b = slices.Insert(b, i, byte(r.Intn(256)))
			case 3:
				b = b[:max(2, i)]
			}
		}
		bothWays(t, b)
	}
}
