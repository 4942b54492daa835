package proto_test

import (
	"encoding/binary"
	"slices"

	"watermeet/api"
)

// The limits as the chapter tells them, so that one that moves is seen.
const (
	top      = 1 << 40
	mostText = 64
)

// words has the chapter's words, followed slowly: it does not ask the program, nor the layer below.

// wordsHas is the chapter's table: how many numbers a kind has, how many texts at least and at most, and how many bytes at most.
func wordsHas(kind int) (ints, texts, mostTexts, mostBytes int) {
	switch kind {
	case 1: // name
		return 0, 1, 1, 0
	case 2: // part, home; topic; a batch's bytes
		return 2, 1, 1, 2048
	case 3: // pid, gen, part, home; name, topic
		return 4, 2, 2, 0
	case 4: // pid, gen, part, home, offset; name, group, topic
		return 5, 3, 3, 0
	case 5: // pid, gen, 1 or 0; name
		return 3, 1, 1, 0
	case 6: // part, home, offset, bytes, 1 or 0; topic
		return 5, 1, 1, 0
	case 7: // group, id, static, and up to 12 topics
		return 0, 3, 15, 0
	case 8, 9: // gen; group, name
		return 1, 2, 2, 0
	case 10: // group, name
		return 0, 2, 2, 0
	case 11: // gen, part, home, offset; group, name, topic
		return 4, 3, 3, 0
	case 12: // part, home; group, topic
		return 2, 2, 2, 0
	}
	panic("no kind")
}

func wordsHead(kind, ver int) api.Errno {
	switch {
	case kind < 1 || kind > 12:
		return 60
	case ver < 0 || ver > 2:
		return 61
	}
	return 0
}

func wordsCheckReq(r api.Req) api.Errno {
	if e := wordsHead(r.Kind, r.Ver); e != 0 {
		return e
	}
	ints, texts, mostTexts, mostBytes := wordsHas(r.Kind)
	may := r.Id >= 0 && r.Id <= top
	may = may && len(r.Who) <= mostText && (r.Ver == 2 || r.Who == "")
	may = may && len(r.Ints) == ints && len(r.Texts) >= texts && len(r.Texts) <= mostTexts
	for _, n := range r.Ints {
		may = may && n >= -1 && n <= top
	}
	for _, s := range r.Texts {
		may = may && len(s) <= mostText
	}
	if !may || len(r.Blob) > mostBytes {
		return 1
	}
	return 0
}

func wordsCheckResp(r api.Resp) api.Errno {
	if e := wordsHead(r.Kind, r.Ver); e != 0 {
		return e
	}
	may := r.Id >= 0 && r.Id <= top && r.Wait >= 0 && r.Wait <= top && (r.Ver > 0 || r.Wait == 0)
	may = may && r.E >= 0 && r.E <= 999
	may = may && len(r.Ints) <= 64 && len(r.Texts) <= 16 && len(r.Blob) <= 4096
	for _, n := range r.Ints {
		may = may && n >= -top && n <= top
	}
	for _, s := range r.Texts {
		may = may && len(s) <= mostText
	}
	if !may {
		return 1
	}
	return 0
}

// bytesOf has what its calls put, one behind the other, also what may not be.
type bytesOf []byte

func (b *bytesOf) raw(l ...byte) { *b = append(*b, l...) }

func (b *bytesOf) number(n int) { *b = binary.AppendVarint(*b, int64(n)) }

func (b *bytesOf) text(s string) {
	b.number(len(s))
	*b = append(*b, s...)
}

// reqBytes is a request's bytes, also of one that may not be, if its kind is one.
func reqBytes(r api.Req) []byte {
	var b bytesOf
	b.raw(byte(r.Kind), byte(r.Ver))
	b.number(r.Id)
	if r.Ver == 2 {
		b.text(r.Who)
	}
	for _, n := range r.Ints {
		b.number(n)
	}
	if r.Kind == 7 {
		b.number(len(r.Texts))
	}
	for _, s := range r.Texts {
		b.text(s)
	}
	if r.Kind == 2 {
		b.text(string(r.Blob))
	}
	return b
}

// respBytes is an answer's bytes, also of one that may not be.
func respBytes(r api.Resp) []byte {
	var b bytesOf
	b.raw(byte(r.Kind), byte(r.Ver))
	b.number(r.Id)
	b.number(int(r.E))
	if r.Ver >= 1 {
		b.number(r.Wait)
	}
	b.number(len(r.Ints))
	for _, n := range r.Ints {
		b.number(n)
	}
	b.number(len(r.Texts))
	for _, s := range r.Texts {
		b.text(s)
	}
	b.text(string(r.Blob))
	return b
}

// left is bytes that are taken from their beginning on; a wrong field is thrown as its error.
type left []byte

func (l *left) head() (kind, ver int) {
	if len(*l) < 2 {
		panic(api.Errno(10))
	}
	kind, ver = int((*l)[0]), int((*l)[1])
	if e := wordsHead(kind, ver); e != 0 {
		panic(e)
	}
	*l = (*l)[2:]
	return kind, ver
}

func (l *left) number() int {
	var u uint64
	for i := 0; ; i++ {
		if len(*l) == i {
			panic(api.Errno(10))
		}
		c := (*l)[i]
		if i == 9 && c > 1 || i > 0 && c == 0 {
			panic(api.Errno(11))
		}
		u += uint64(c%128) << (7 * i)
		if c < 128 {
			*l = (*l)[i+1:]
			break
		}
	}
	if u%2 == 0 {
		return int(u / 2)
	}
	return -int(u/2) - 1
}

// many is a number from least to most; below and above are told of any other one.
func (l *left) many(least, most int, below, above api.Errno) int {
	n := l.number()
	if n < least {
		panic(below)
	}
	if n > most {
		panic(above)
	}
	return n
}

func (l *left) bytes(most int) []byte {
	n := l.many(0, most, 11, 2)
	if len(*l) < n {
		panic(api.Errno(10))
	}
	x := slices.Clone((*l)[:n])
	*l = (*l)[n:]
	return x
}

func (l *left) end() {
	if len(*l) > 0 {
		panic(api.Errno(11))
	}
}

func wordsGetReq(b []byte) (r api.Req, e api.Errno) {
	defer func() {
		if x := recover(); x != nil {
			r, e = api.Req{}, x.(api.Errno)
		}
	}()
	l := left(b)
	r.Kind, r.Ver = l.head()
	ints, texts, mostTexts, mostBytes := wordsHas(r.Kind)
	r.Id = l.number()
	if r.Ver == 2 {
		r.Who = string(l.bytes(64))
	}
	for len(r.Ints) < ints {
		r.Ints = append(r.Ints, l.number())
	}
	if r.Kind == 7 {
		texts = l.many(texts, mostTexts, 11, 11)
	}
	for len(r.Texts) < texts {
		r.Texts = append(r.Texts, string(l.bytes(64)))
	}
	if r.Kind == 2 {
		r.Blob = l.bytes(mostBytes)
	}
	l.end()
	if wordsCheckReq(r) != 0 {
		panic(api.Errno(1))
	}
	return r, 0
}

func wordsGetResp(b []byte) (r api.Resp, e api.Errno) {
	defer func() {
		if x := recover(); x != nil {
			r, e = api.Resp{}, x.(api.Errno)
		}
	}()
	l := left(b)
	r.Kind, r.Ver = l.head()
	r.Id = l.number()
	r.E = api.Errno(l.number())
	if r.Ver >= 1 {
		r.Wait = l.number()
	}
	for n := l.many(0, 64, 11, 2); len(r.Ints) < n; {
		r.Ints = append(r.Ints, l.number())
	}
	for n := l.many(0, 16, 11, 2); len(r.Texts) < n; {
		r.Texts = append(r.Texts, string(l.bytes(64)))
	}
	r.Blob = l.bytes(4096)
	l.end()
	if wordsCheckResp(r) != 0 {
		panic(api.Errno(1))
	}
	return r, 0
}

func wordsAgree(mine, theirs []api.Span) ([]api.Span, api.Errno) {
	for _, l := range [][]api.Span{mine, theirs} {
		for i, s := range l {
			if s.Kind < 0 || s.Kind > 255 || i > 0 && s.Kind <= l[i-1].Kind || s.Lo < 0 || s.Lo > s.Hi || s.Hi > 255 {
				return nil, 1
			}
		}
	}
	var both []api.Span
	for kind := range 256 {
		for _, m := range mine {
			for _, s := range theirs {
				if m.Kind == kind && s.Kind == kind {
					both = append(both, api.Span{Kind: kind, Lo: max(m.Lo, s.Lo), Hi: min(m.Hi, s.Hi)})
				}
			}
		}
	}
	for _, s := range both {
		if s.Lo > s.Hi {
			return nil, 61
		}
	}
	return both, 0
}

func sameReq(a, b api.Req) bool {
	return a.Kind == b.Kind && a.Ver == b.Ver && a.Id == b.Id && a.Who == b.Who &&
		slices.Equal(a.Ints, b.Ints) && slices.Equal(a.Texts, b.Texts) && slices.Equal(a.Blob, b.Blob)
}

func sameResp(a, b api.Resp) bool {
	return a.Kind == b.Kind && a.Ver == b.Ver && a.Id == b.Id && a.E == b.E && a.Wait == b.Wait &&
		slices.Equal(a.Ints, b.Ints) && slices.Equal(a.Texts, b.Texts) && slices.Equal(a.Blob, b.Blob)
}
