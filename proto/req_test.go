package proto_test

import (
	"fmt"
	"math"
	"slices"
	"strings"
	"testing"

	"watermeet/api"
	"watermeet/proto"
)

// written are requests of each kind in version 0, and their bytes; each number of a request has one byte, up to the third one.
var written = []struct {
	r api.Req
	b string
}{
	{api.Req{Kind: 1, Id: 1, Texts: []string{"n"}}, "\x01\x00\x02\x02n"},
	{api.Req{Kind: 2, Id: 2, Ints: []int{3, -1}, Texts: []string{"t"}, Blob: []byte{7, 8, 9}}, "\x02\x00\x04\x06\x01\x02t\x06\x07\x08\x09"},
	{api.Req{Kind: 3, Id: 3, Ints: []int{7, 1, 2, 0}, Texts: []string{"n", "to"}}, "\x03\x00\x06\x0e\x02\x04\x00\x02n\x04to"},
	{api.Req{Kind: 4, Id: 4, Ints: []int{7, 1, 2, 0, 300}, Texts: []string{"n", "gr", "t"}}, "\x04\x00\x08\x0e\x02\x04\x00\xd8\x04\x02n\x04gr\x02t"},
	{api.Req{Kind: 5, Id: 5, Ints: []int{7, 1, 1}, Texts: []string{"n"}}, "\x05\x00\x0a\x0e\x02\x02\x02n"},
	{api.Req{Kind: 6, Id: 6, Ints: []int{2, -1, 300, 64, 1}, Texts: []string{"t"}}, "\x06\x00\x0c\x04\x01\xd8\x04\x80\x01\x02\x02t"},
	{api.Req{Kind: 7, Id: 7, Texts: []string{"g", "i", "", "t", "us"}}, "\x07\x00\x0e\x0a\x02g\x02i\x00\x02t\x04us"},
	{api.Req{Kind: 8, Id: 8, Ints: []int{3}, Texts: []string{"g", "n"}}, "\x08\x00\x10\x06\x02g\x02n"},
	{api.Req{Kind: 9, Id: 9, Ints: []int{4}, Texts: []string{"g", "n"}}, "\x09\x00\x12\x08\x02g\x02n"},
	{api.Req{Kind: 10, Id: 10, Texts: []string{"g", "n"}}, "\x0a\x00\x14\x02g\x02n"},
	{api.Req{Kind: 11, Id: 11, Ints: []int{3, 2, 0, 9}, Texts: []string{"g", "n", "t"}}, "\x0b\x00\x16\x06\x04\x00\x12\x02g\x02n\x02t"},
	{api.Req{Kind: 12, Id: 12, Ints: []int{2, 0}, Texts: []string{"g", "t"}}, "\x0c\x00\x18\x04\x00\x02g\x02t"},
}

// inVersion is a request of written in another version, with who asks in version 2.
func inVersion(k, ver int, who string) (api.Req, string) {
	r, b := written[k].r, written[k].b
	r.Ver = ver
	if ver < 2 {
		return r, b[:1] + string(rune(ver)) + b[2:]
	}
	r.Who = who
	return r, b[:1] + "\x02" + b[2:3] + string(rune(2*len(who))) + who + b[3:]
}

func TestP6_2OrdinaryRequests(t *testing.T) {
	for _, r := range reqs() {
		checksReq(t, "ordinary", r, api.OK)
	}
	for k := range written {
		for ver := range 3 {
			r, _ := inVersion(k, ver, "me")
			checksReq(t, "by hand", r, api.OK)
		}
	}
}

func TestP6_2Kinds(t *testing.T) {
	for _, r := range reqs() {
		for _, kind := range []int{0, -1, 13, 14, 23, 24, 255, 256, 257, 256 + r.Kind, -r.Kind, 1<<32 + r.Kind, math.MinInt, math.MaxInt} {
			wrong := r
			wrong.Kind = kind
			checksReq(t, "a kind that is none", wrong, api.ErrKind)
			wrong.Ver = 3
			checksReq(t, "a kind that is none, and a version that is none", wrong, api.ErrKind)
			wrong.Ver, wrong.Id, wrong.Texts = -1, -1, nil
			checksReq(t, "a kind that is none, and all else wrong", wrong, api.ErrKind)
		}
	}
	checksReq(t, "nothing at all", api.Req{}, api.ErrKind)
}

func TestP6_2Versions(t *testing.T) {
	for _, r := range reqs() {
		for _, ver := range []int{-1, -2, 3, 4, 255, 256, 257, 258, 1 << 32, math.MinInt, math.MaxInt} {
			wrong := r
			wrong.Ver = ver
			checksReq(t, "a version that is none", wrong, api.ErrVersion)
			wrong.Id, wrong.Who, wrong.Ints, wrong.Texts, wrong.Blob = -1, strings.Repeat("x", 65), numbers(9), nil, blob(5000)
			checksReq(t, "a version that is none, and all else wrong", wrong, api.ErrVersion)
		}
	}
}

func TestP6_2Ids(t *testing.T) {
	may := map[int]bool{0: true, 1: true, 2: true, 63: true, 64: true, 255: true, 256: true, 998: true, 999: true, 1000: true, 1 << 32: true, top - 1: true, top: true}
	for _, r := range reqs() {
		for _, id := range far {
			r.Id = id
			checksReq(t, "Id", r, either(may[id]))
		}
	}
}

// either is what is told of something that may be, or may not.
func either(may bool) api.Errno {
	if may {
		return api.OK
	}
	return api.ErrArg
}

func TestP6_2Who(t *testing.T) {
	for _, r := range reqs() {
		for _, who := range sized {
			r.Who = who
			checksReq(t, "Who", r, either(who == "" || r.Ver == 2 && len(who) <= 64))
		}
	}
}

func TestP6_2Ints(t *testing.T) {
	for _, r := range reqs() {
		for i := range r.Ints {
			for _, n := range far {
				wrong := r
				wrong.Ints = slices.Clone(r.Ints)
				wrong.Ints[i] = n
				checksReq(t, "a number", wrong, either(n >= -1 && n <= 1<<40))
			}
		}
		for many := range 70 {
			if many != len(r.Ints) {
				wrong := r
				wrong.Ints = make([]int, many)
				checksReq(t, fmt.Sprint(many, " numbers"), wrong, api.ErrArg)
			}
		}
	}
}

func TestP6_2Texts(t *testing.T) {
	for _, r := range reqs() {
		for i := range r.Texts {
			for _, s := range sized {
				wrong := r
				wrong.Texts = slices.Clone(r.Texts)
				wrong.Texts[i] = s
				checksReq(t, "a text", wrong, either(len(s) <= 64))
			}
		}
		for many := range 35 {
			wrong := r
			wrong.Texts = make([]string, many)
			_, least, most, _ := wordsHas(r.Kind)
			checksReq(t, fmt.Sprint(many, " texts"), wrong, either(many >= least && many <= most))
		}
	}
}

func TestP6_2JoinActsTexts(t *testing.T) {
	for ver := range 3 {
		for many := range 40 {
			r := api.Req{Kind: api.JoinAct, Ver: ver, Texts: texts(many)}
			checksReq(t, fmt.Sprint("a JoinAct of ", many), r, either(many >= 3 && many <= 15))
		}
	}
}

func TestP6_2Blobs(t *testing.T) {
	for _, r := range reqs() {
		for _, n := range []int{0, 1, 2, 2047, 2048, 2049, 4096, 1 << 16} {
			r.Blob = blob(n)
			checksReq(t, fmt.Sprint(n, " bytes"), r, either(n == 0 || r.Kind == api.WriteAct && n <= 2048))
		}
	}
}

func TestP6_3PutReq(t *testing.T) {
	for k, x := range written {
		for ver := range 3 {
			for _, who := range []string{"", "m", "me", strings.Repeat("m", 63)} {
				r, want := inVersion(k, ver, who)
				if b, e := proto.PutReq(r); string(b) != want || e != api.OK {
					t.Errorf("kind %d, version %d: got %v, error %d, want %v", x.r.Kind, ver, b, e, []byte(want))
				}
			}
		}
	}
	ofTheChapter := api.Req{Kind: api.EndAct, Ver: 0, Id: 5, Ints: []int{7, 1, 1}, Texts: []string{"n"}}
	if b, e := proto.PutReq(ofTheChapter); !slices.Equal(b, []byte{5, 0, 10, 14, 2, 2, 2, 110}) || e != api.OK {
		t.Errorf("the chapter's example: got %v, error %d", b, e)
	}
	who := api.Req{Kind: api.InitAct, Ver: 2, Id: 300, Who: strings.Repeat("w", 64), Texts: []string{strings.Repeat("n", 64)}}
	want := "\x01\x02\xd8\x04\x80\x01" + who.Who + "\x80\x01" + who.Texts[0]
	if b, e := proto.PutReq(who); string(b) != want || e != api.OK {
		t.Errorf("texts of 64 bytes: got %v, error %d", b, e)
	}
}

// Each length that bytes and texts may have, and each number of topics, is put.
func TestP6_3PutReqOfEachLength(t *testing.T) {
	for n := range 2049 {
		checksReq(t, "bytes", api.Req{Kind: api.WriteAct, Ver: n % 3, Id: n, Ints: []int{n, -1}, Texts: []string{"t"}, Blob: blob(n)}, api.OK)
	}
	for n := range 65 {
		s := strings.Repeat("s", n)
		checksReq(t, "texts", api.Req{Kind: api.AskAct, Ver: 2, Who: s, Ints: []int{n, n}, Texts: []string{s, s}}, api.OK)
	}
	for n := 3; n <= 15; n++ {
		checksReq(t, "topics", api.Req{Kind: api.JoinAct, Texts: texts(n)}, api.OK)
	}
}

func TestP6_3PutReqIsNew(t *testing.T) {
	for _, x := range reqs() {
		r := x
		r.Ints, r.Texts, r.Blob = roomy(x.Ints, 99), roomy(x.Texts, "other"), roomy(x.Blob, 99)
		ints, strs, bytes := cloned(r.Ints), cloned(r.Texts), cloned(r.Blob)
		stayed := func() bool {
			return slices.Equal(whole(r.Ints), whole(ints)) && slices.Equal(whole(r.Texts), whole(strs)) && slices.Equal(whole(r.Blob), whole(bytes))
		}
		proto.CheckReq(r)
		one, _ := proto.PutReq(r)
		two, _ := proto.PutReq(r)
		if !stayed() {
			t.Fatalf("%s: what was handed in was changed", asked(x))
		}
		was := slices.Clone(two)
		scribble(one, 77)
		if !stayed() || !slices.Equal(two, was) {
			t.Fatalf("%s: something changes with an answer", asked(x))
		}
		scribble(r.Ints, 55)
		scribble(r.Texts, "scribbled")
		scribble(r.Blob, 55)
		if !slices.Equal(two, was) {
			t.Fatalf("%s: an answer changes with what was handed in", asked(x))
		}
	}
}

func TestP6_4GetReq(t *testing.T) {
	for k := range written {
		for ver := range 3 {
			for _, who := range []string{"", "m", "me"} {
				r, b := inVersion(k, ver, who)
				getsReq(t, "by hand", []byte(b), r, api.OK)
			}
		}
	}
	for _, r := range reqs() {
		getsReq(t, "ordinary", reqBytes(r), r, api.OK)
	}
}

func TestP6_4CutOffAndLeftBehind(t *testing.T) {
	for _, r := range reqs() {
		b := reqBytes(r)
		for i := range b {
			getsReq(t, "cut off", b[:i:i], api.Req{}, api.ErrShort)
			if i < 200 {
				getsReq(t, "cut off, with room behind it", roomy(b[:i], 1), api.Req{}, api.ErrShort)
			}
		}
		for _, more := range [][]byte{{0}, {1}, {255}, {0, 0}, blob(3), b, blob(4096)} {
			getsReq(t, "something left", slices.Concat(b, more), api.Req{}, api.ErrForm)
		}
	}
}

func TestP6_4Heads(t *testing.T) {
	getsReq(t, "no bytes", nil, api.Req{}, api.ErrShort)
	getsReq(t, "no bytes, in a list", []byte{}, api.Req{}, api.ErrShort)
	for kind := range 256 {
		getsReq(t, "one byte", []byte{byte(kind)}, api.Req{}, api.ErrShort)
		for ver := range 256 {
			e := api.ErrShort
			switch {
			case kind == 0 || kind > 12:
				e = api.ErrKind
			case ver > 2:
				e = api.ErrVersion
			}
			getsReq(t, "a head", []byte{byte(kind), byte(ver)}, api.Req{}, e)
			if e != api.ErrShort {
				getsReq(t, "a wrong head, and more", append([]byte{byte(kind), byte(ver)}, written[4].b[2:]...), api.Req{}, e)
				getsReq(t, "a wrong head, and what is wrong too", []byte{byte(kind), byte(ver), 128, 0, 1}, api.Req{}, e)
			}
		}
	}
}

// A request's numbers, and the counts of its texts and bytes, are put by hand here, as they may be wrong in ways that no request has.
func TestP6_4WrongFields(t *testing.T) {
	big := strings.Repeat("x", 3000)
	for _, x := range []struct {
		name, b string
		e       api.Errno
	}{
		{"Id not as short as it goes", "\x05\x00\x8a\x00\x0e\x02\x02\x02n", api.ErrForm},
		{"a first number not as short as it goes", "\x05\x00\x0a\x8e\x00\x02\x02\x02n", api.ErrForm},
		{"a last number not as short as it goes", "\x05\x00\x0a\x0e\x02\x82\x00\x02n", api.ErrForm},
		{"a text's length not as short as it goes", "\x05\x00\x0a\x0e\x02\x02\x82\x00n", api.ErrForm},
		{"Who's length not as short as it goes", "\x05\x02\x0a\x82\x00w\x0e\x02\x02\x02n", api.ErrForm},
		{"a count of texts not as short as it goes", "\x07\x00\x0e\x86\x00\x02g\x02i\x00", api.ErrForm},
		{"a count of bytes not as short as it goes", "\x02\x00\x04\x06\x01\x02t\x82\x00\x07", api.ErrForm},
		{"Id of nought in two bytes", "\x01\x00\x80\x00\x02n", api.ErrForm},
		{"Id with a tenth byte above 1", "\x01\x00\xff\xff\xff\xff\xff\xff\xff\xff\xff\x02\x02n", api.ErrForm},
		{"Id with a tenth byte of 1", "\x01\x00\xff\xff\xff\xff\xff\xff\xff\xff\xff\x01\x02n", api.ErrArg},
		{"Id with an eleventh byte", "\x01\x00\xff\xff\xff\xff\xff\xff\xff\xff\xff\x81\x01\x02n", api.ErrForm},
		{"Id of -1", "\x05\x00\x01\x0e\x02\x02\x02n", api.ErrArg},
		{"Id of 2^40", "\x01\x00\x80\x80\x80\x80\x80\x40\x02n", api.OK},
		{"Id of 2^40 + 1", "\x01\x00\x82\x80\x80\x80\x80\x40\x02n", api.ErrArg},
		{"a number of -1", "\x05\x00\x0a\x01\x02\x02\x02n", api.OK},
		{"a number of -2", "\x05\x00\x0a\x03\x02\x02\x02n", api.ErrArg},
		{"a last number of -2", "\x05\x00\x0a\x02\x02\x03\x02n", api.ErrArg},
		{"a number of 2^40", "\x05\x00\x0a\x80\x80\x80\x80\x80\x40\x02\x02\x02n", api.OK},
		{"a number of 2^40 + 1", "\x05\x00\x0a\x82\x80\x80\x80\x80\x40\x02\x02\x02n", api.ErrArg},
		{"a text of -1 bytes", "\x01\x00\x02\x01", api.ErrForm},
		{"a text of 64 bytes", "\x01\x00\x02\x80\x01" + big[:64], api.OK},
		{"a text of 64 bytes, of which one is missing", "\x01\x00\x02\x80\x01" + big[:63], api.ErrShort},
		{"a text of 65 bytes", "\x01\x00\x02\x82\x01" + big[:65], api.ErrBound},
		{"a text of 65 bytes that are not there", "\x01\x00\x02\x82\x01", api.ErrBound},
		{"Who of -1 bytes", "\x01\x02\x02\x01\x02n", api.ErrForm},
		{"Who of 64 bytes", "\x01\x02\x02\x80\x01" + big[:64] + "\x02n", api.OK},
		{"Who of 65 bytes", "\x01\x02\x02\x82\x01" + big[:65] + "\x02n", api.ErrBound},
		{"Who of two bytes, of which one is missing", "\x01\x02\x02\x04w", api.ErrShort},
		{"Who in version 1", "\x01\x01\x02\x02w\x02n", api.ErrForm},
		{"Who missing in version 2", "\x01\x02\x02\x02n", api.ErrShort},
		{"a JoinAct of -1 texts", "\x07\x00\x0e\x01", api.ErrForm},
		{"a JoinAct of no texts", "\x07\x00\x0e\x00", api.ErrForm},
		{"a JoinAct of 2 texts", "\x07\x00\x0e\x04\x00\x00", api.ErrForm},
		{"a JoinAct of 3 texts", "\x07\x00\x0e\x06\x00\x00\x00", api.OK},
		{"a JoinAct of 3 texts, of which one is missing", "\x07\x00\x0e\x06\x00\x00", api.ErrShort},
		{"a JoinAct of 3 texts, and one more", "\x07\x00\x0e\x06\x00\x00\x00\x00", api.ErrForm},
		{"a JoinAct of 15 texts", "\x07\x00\x0e\x1e" + strings.Repeat("\x00", 15), api.OK},
		{"a JoinAct of 15 texts, of which one is missing", "\x07\x00\x0e\x1e" + strings.Repeat("\x00", 14), api.ErrShort},
		{"a JoinAct of 16 texts", "\x07\x00\x0e\x20" + strings.Repeat("\x00", 16), api.ErrForm},
		{"a JoinAct of 2^62 texts", "\x07\x00\x0e\x80\x80\x80\x80\x80\x80\x80\x80\x80\x01", api.ErrForm},
		{"a JoinAct of 16 texts that are not there", "\x07\x00\x0e\x20", api.ErrForm},
		{"a JoinAct's text of 65 bytes", "\x07\x00\x0e\x06\x00\x82\x01" + big[:65] + "\x00", api.ErrBound},
		{"no count of a JoinAct's texts", "\x07\x00\x0e", api.ErrShort},
		{"a WriteAct of -1 bytes", "\x02\x00\x00\x00\x00\x00\x01", api.ErrForm},
		{"a WriteAct of no bytes", "\x02\x00\x00\x00\x00\x00\x00", api.OK},
		{"a WriteAct of 2048 bytes", "\x02\x00\x00\x00\x00\x00\x80\x20" + big[:2048], api.OK},
		{"a WriteAct of 2048 bytes, of which one is missing", "\x02\x00\x00\x00\x00\x00\x80\x20" + big[:2047], api.ErrShort},
		{"a WriteAct of 2049 bytes", "\x02\x00\x00\x00\x00\x00\x82\x20" + big[:2049], api.ErrBound},
		{"a WriteAct of 2049 bytes that are not there", "\x02\x00\x00\x00\x00\x00\x82\x20", api.ErrBound},
		{"no count of a WriteAct's bytes", "\x02\x00\x00\x00\x00\x00", api.ErrShort},
		{"bytes beside another kind", "\x01\x00\x02\x02n\x02b", api.ErrForm},
		{"no bytes beside another kind, in a byte", "\x01\x00\x02\x02n\x00", api.ErrForm},
	} {
		want, e := wordsGetReq([]byte(x.b))
		if e != x.e {
			t.Errorf("%s: the slow reading tells %d, want %d", x.name, e, x.e)
		}
		getsReq(t, x.name, []byte(x.b), want, x.e)
	}
}

// Fields are looked at one behind the other, then whether something is left, and only then whether the request may be.
func TestP6_4WhichErrorComesFirst(t *testing.T) {
	big := strings.Repeat("x", 100)
	for _, x := range []struct {
		name, b string
		e       api.Errno
	}{
		{"Id of -1, and a text cut off", "\x01\x00\x01\x04n", api.ErrShort},
		{"Id of -1, and a text of -1 bytes", "\x01\x00\x01\x01", api.ErrForm},
		{"Id of -1, and a text of 65 bytes", "\x01\x00\x01\x82\x01" + big[:65], api.ErrBound},
		{"Id of -1, and something left", "\x01\x00\x01\x02n\x00", api.ErrForm},
		{"a number of -2, and something left", "\x05\x00\x0a\x03\x02\x02\x02n\x00", api.ErrForm},
		{"a number of -2, and a text cut off", "\x05\x00\x0a\x03\x02\x02\x02", api.ErrShort},
		{"a number of -2, and a number not as short as it goes", "\x05\x00\x0a\x03\x02\x82\x00\x02n", api.ErrForm},
		{"a number of -2, and 65 bytes", "\x05\x00\x0a\x03\x02\x02\x82\x01", api.ErrBound},
		{"a JoinAct of Id -1, and 2 texts", "\x07\x00\x01\x04\x00\x00", api.ErrForm},
		{"a JoinAct of Id -1, and 3 texts", "\x07\x00\x01\x06\x00\x00\x00", api.ErrArg},
		{"a text of 65 bytes, and one of -1", "\x0a\x00\x14\x82\x01" + big[:65] + "\x01", api.ErrBound},
		{"a text of -1 bytes, and one of 65", "\x0a\x00\x14\x01\x82\x01" + big[:65], api.ErrForm},
		{"a text of 65 bytes, and nothing behind it", "\x0a\x00\x14\x82\x01" + big[:65], api.ErrBound},
		{"a text of 65 bytes, and something left", "\x0a\x00\x14\x82\x01" + big[:65] + "\x00\x00", api.ErrBound},
		{"Who of 65 bytes, and a number not as short as it goes", "\x05\x02\x0a\x82\x01" + big[:65] + "\x8e\x00", api.ErrBound},
		{"a number not as short as it goes, and a text of 65 bytes", "\x08\x00\x10\x86\x00\x82\x01" + big[:65], api.ErrForm},
		{"2 texts of a JoinAct, one of 65 bytes", "\x07\x00\x0e\x04\x82\x01" + big[:65] + "\x00", api.ErrForm},
		{"a WriteAct's number of -2, and 2049 bytes", "\x02\x00\x00\x03\x00\x00\x82\x20", api.ErrBound},
		{"a WriteAct's number of -2, and -1 bytes", "\x02\x00\x00\x03\x00\x00\x01", api.ErrForm},
		{"a WriteAct's number of -2, and too few bytes", "\x02\x00\x00\x03\x00\x00\x04b", api.ErrShort},
		{"a WriteAct's number of -2, and a byte too many", "\x02\x00\x00\x03\x00\x00\x02bb", api.ErrForm},
		{"a WriteAct's text of 65 bytes, and -1 bytes", "\x02\x00\x00\x00\x00\x82\x01" + big[:65] + "\x01", api.ErrBound},
	} {
		getsReq(t, x.name, []byte(x.b), api.Req{}, x.e)
	}
}

func TestP6_4ChangedBytes(t *testing.T) {
	counts := map[api.Errno]int{}
	look := func(b []byte) {
		want, e := wordsGetReq(b)
		counts[e]++
		r, got := proto.GetReq(b)
		if got != e || !sameReq(r, want) {
			t.Fatalf("GetReq of %v tells %s, error %d, want %s, error %d", b, asked(r), got, asked(want), e)
		}
	}
	for k := range written {
		for ver := range 3 {
			_, b := inVersion(k, ver, "me")
			changed([]byte(b), look)
		}
	}
	for _, e := range []api.Errno{api.OK, api.ErrArg, api.ErrBound, api.ErrShort, api.ErrForm, api.ErrKind, api.ErrVersion} {
		if counts[e] < 100 {
			t.Errorf("that looks at too little: %v", counts)
		}
	}
}

func TestP6_4GetReqIsNew(t *testing.T) {
	for _, x := range reqs() {
		b := roomy(reqBytes(x), 99)
		was := cloned(b)
		one, _ := proto.GetReq(b)
		two, _ := proto.GetReq(b)
		scribble(one.Ints, 55)
		scribble(one.Texts, "scribbled")
		scribble(one.Blob, 55)
		if !slices.Equal(whole(b), whole(was)) {
			t.Fatalf("%s: what was handed in was changed, or changes with an answer", asked(x))
		}
		if !sameReq(two, x) {
			t.Fatalf("%s: an answer changes with another one", asked(x))
		}
		scribble(b, 77)
		if !sameReq(two, x) {
			t.Fatalf("%s: an answer changes with what was handed in: %s", asked(x), asked(two))
		}
	}
}

// What is refused stays as it was too.
func TestP6_4WrongBytesStay(t *testing.T) {
	for k := range written {
		changed([]byte(written[k].b), func(x []byte) {
			b := roomy(x, 99)
			was := cloned(b)
			proto.GetReq(b)
			proto.GetResp(b)
			if !slices.Equal(whole(b), whole(was)) {
				t.Fatalf("%v: what was handed in was changed", x)
			}
		})
	}
}
