package proto_test

import (
	"math"
	"math/rand"
	"slices"
	"testing"

	"watermeet/api"
	"watermeet/proto"
)

func TestP6_1Spans(t *testing.T) {
	want := []api.Span{{Kind: 1, Lo: 0, Hi: 2}, {Kind: 2, Lo: 0, Hi: 2}, {Kind: 3, Lo: 0, Hi: 2}, {Kind: 4, Lo: 0, Hi: 2}, {Kind: 5, Lo: 0, Hi: 2}, {Kind: 6, Lo: 0, Hi: 2}, {Kind: 7, Lo: 0, Hi: 2}, {Kind: 8, Lo: 0, Hi: 2}, {Kind: 9, Lo: 0, Hi: 2}, {Kind: 10, Lo: 0, Hi: 2}, {Kind: 11, Lo: 0, Hi: 2}, {Kind: 12, Lo: 0, Hi: 2}}
	one, two := proto.Spans(), proto.Spans()
	if !slices.Equal(one, want) {
		t.Errorf("got %v", one)
	}
	scribble(one, api.Span{Kind: 99, Lo: 98, Hi: 97})
	if !slices.Equal(two, want) || !slices.Equal(proto.Spans(), want) {
		t.Errorf("behind a list that is written into: got %v, and %v", two, proto.Spans())
	}
}

// agrees fails, unless Agree tells that of two lists, either way round, in new memory, and leaves them as they were.
func agrees(t *testing.T, name string, mine, theirs, want []api.Span, e api.Errno) {
	t.Helper()
	junk := api.Span{Kind: 77, Lo: 88, Hi: 99}
	mine, theirs = roomy(mine, junk), roomy(theirs, junk)
	wasMine, wasTheirs := cloned(mine), cloned(theirs)
	for _, x := range [][2][]api.Span{{mine, theirs}, {theirs, mine}} {
		one, got := proto.Agree(x[0], x[1])
		two, _ := proto.Agree(x[0], x[1])
		if got != e || !slices.Equal(one, want) {
			t.Errorf("%s: Agree of %v and %v tells %v, error %d, want %v, error %d", name, x[0], x[1], one, got, want, e)
		}
		scribble(one, junk)
		if !slices.Equal(two, want) {
			t.Errorf("%s: an answer changes with another one", name)
		}
		scribble(two, junk)
		if !slices.Equal(whole(mine), whole(wasMine)) || !slices.Equal(whole(theirs), whole(wasTheirs)) {
			t.Fatalf("%s: what was handed in was changed, or changes with an answer", name)
		}
	}
}

func TestP6_1Agree(t *testing.T) {
	all := []api.Span{{Kind: 0, Lo: 0, Hi: 255}, {Kind: 1, Lo: 255, Hi: 255}, {Kind: 255, Lo: 7, Hi: 9}}
	for _, x := range []struct {
		name               string
		mine, theirs, want []api.Span
		e                  api.Errno
	}{
		{"no lists", nil, nil, nil, api.OK},
		{"one list", all, nil, nil, api.OK},
		{"the same list", all, all, all, api.OK},
		{"one's own spans", proto.Spans(), proto.Spans(), proto.Spans(), api.OK},
		{"no kind in both", []api.Span{{Kind: 1}, {Kind: 3}, {Kind: 5}}, []api.Span{{Kind: 0}, {Kind: 2}, {Kind: 4}, {Kind: 6}}, nil, api.OK},
		{"one kind in both", []api.Span{{Kind: 1}, {Kind: 3}}, []api.Span{{Kind: 2}, {Kind: 3}, {Kind: 4}}, []api.Span{{Kind: 3}}, api.OK},
		{"kind 0 in both", []api.Span{{Kind: 0, Hi: 4}}, []api.Span{{Kind: 0, Lo: 4, Hi: 5}}, []api.Span{{Kind: 0, Lo: 4, Hi: 4}}, api.OK},
		{"kind 255 in both", []api.Span{{Kind: 255, Lo: 3, Hi: 4}}, []api.Span{{Kind: 255, Lo: 1, Hi: 255}}, []api.Span{{Kind: 255, Lo: 3, Hi: 4}}, api.OK},
		{"first with last", []api.Span{{Kind: 9, Hi: 1}, {Kind: 200}}, []api.Span{{Kind: 0}, {Kind: 9, Hi: 3}}, []api.Span{{Kind: 9, Hi: 1}}, api.OK},
		{"one inside the other", []api.Span{{Kind: 4, Lo: 2, Hi: 9}}, []api.Span{{Kind: 4, Lo: 3, Hi: 5}}, []api.Span{{Kind: 4, Lo: 3, Hi: 5}}, api.OK},
		{"one behind the other", []api.Span{{Kind: 4, Lo: 2, Hi: 5}}, []api.Span{{Kind: 4, Lo: 3, Hi: 9}}, []api.Span{{Kind: 4, Lo: 3, Hi: 5}}, api.OK},
		{"they touch", []api.Span{{Kind: 4, Lo: 0, Hi: 2}}, []api.Span{{Kind: 4, Lo: 2, Hi: 3}}, []api.Span{{Kind: 4, Lo: 2, Hi: 2}}, api.OK},
		{"they do not touch", []api.Span{{Kind: 4, Lo: 0, Hi: 2}}, []api.Span{{Kind: 4, Lo: 3, Hi: 3}}, nil, api.ErrVersion},
		{"one of many does not touch", []api.Span{{Kind: 1}, {Kind: 4, Hi: 2}, {Kind: 5}}, []api.Span{{Kind: 1}, {Kind: 4, Lo: 3, Hi: 3}, {Kind: 5}}, nil, api.ErrVersion},
		{"the first does not touch", []api.Span{{Kind: 0}, {Kind: 4, Hi: 2}}, []api.Span{{Kind: 0, Lo: 1, Hi: 1}, {Kind: 4}}, nil, api.ErrVersion},
		{"the last does not touch", []api.Span{{Kind: 0}, {Kind: 255, Hi: 2}}, []api.Span{{Kind: 0}, {Kind: 255, Lo: 255, Hi: 255}}, nil, api.ErrVersion},
		{"with ours", proto.Spans(), []api.Span{{Kind: 0, Hi: 9}, {Kind: 1, Lo: 1, Hi: 255}, {Kind: 12, Hi: 0}, {Kind: 13, Hi: 3}}, []api.Span{{Kind: 1, Lo: 1, Hi: 2}, {Kind: 12}}, api.OK},
		{"newer than ours", proto.Spans(), []api.Span{{Kind: 7, Lo: 3, Hi: 3}}, nil, api.ErrVersion},
	} {
		agrees(t, x.name, x.mine, x.theirs, x.want, x.e)
	}
}

func TestP6_1AgreeOfMany(t *testing.T) {
	var low, high, evens, odds, none []api.Span
	for k := range 256 {
		low = append(low, api.Span{Kind: k, Lo: k / 2, Hi: k})
		high = append(high, api.Span{Kind: k, Lo: k, Hi: 255})
		none = append(none, api.Span{Kind: k, Lo: 1 + k/255, Hi: 255})
		if k%2 == 0 {
			evens = append(evens, api.Span{Kind: k, Hi: 255})
		} else {
			odds = append(odds, api.Span{Kind: k, Hi: 255})
		}
	}
	lists := [][]api.Span{low, high, evens, odds, none, proto.Spans(), nil}
	for _, a := range lists {
		for _, b := range lists {
			want, e := wordsAgree(a, b)
			agrees(t, "many", a, b, want, e)
		}
	}
}

func TestP6_1AgreeErrors(t *testing.T) {
	ok := []api.Span{{Kind: 5, Lo: 1, Hi: 2}}
	apart := []api.Span{{Kind: 5, Lo: 3, Hi: 3}}
	for _, x := range []struct {
		name string
		l    []api.Span
	}{
		{"the same kind twice", []api.Span{{Kind: 5}, {Kind: 5}}},
		{"kind 0 twice", []api.Span{{Kind: 0}, {Kind: 0}}},
		{"kind 255 twice", []api.Span{{Kind: 255}, {Kind: 255}}},
		{"kinds that fall", []api.Span{{Kind: 6}, {Kind: 5}}},
		{"kinds that fall at the end", []api.Span{{Kind: 1}, {Kind: 6}, {Kind: 7}, {Kind: 2}}},
		{"kinds that rise again", []api.Span{{Kind: 6}, {Kind: 5}, {Kind: 7}}},
		{"a kind below 0", []api.Span{{Kind: -1}}},
		{"a kind below 0 ahead of others", []api.Span{{Kind: -1}, {Kind: 0}, {Kind: 5}}},
		{"a kind above 255", []api.Span{{Kind: 256}}},
		{"a kind above 255 behind others", []api.Span{{Kind: 5}, {Kind: 255}, {Kind: 256}}},
		{"the least kind", []api.Span{{Kind: math.MinInt}}},
		{"the greatest kind", []api.Span{{Kind: math.MaxInt}}},
		{"the greatest kind, and the least", []api.Span{{Kind: math.MaxInt}, {Kind: math.MinInt}}},
		{"Lo above Hi", []api.Span{{Kind: 5, Lo: 2, Hi: 1}}},
		{"Lo above Hi of a kind in one list alone", []api.Span{{Kind: 6, Lo: 1}}},
		{"Lo below 0", []api.Span{{Kind: 5, Lo: -1, Hi: 1}}},
		{"both below 0", []api.Span{{Kind: 5, Lo: -1, Hi: -1}}},
		{"the least Lo", []api.Span{{Kind: 5, Lo: math.MinInt, Hi: 1}}},
		{"Hi above 255", []api.Span{{Kind: 5, Lo: 1, Hi: 256}}},
		{"both above 255", []api.Span{{Kind: 5, Lo: 256, Hi: 256}}},
		{"the greatest Hi", []api.Span{{Kind: 5, Hi: math.MaxInt}}},
		{"the first is wrong", []api.Span{{Kind: 1, Hi: 256}, {Kind: 5, Hi: 2}}},
		{"the last is wrong", []api.Span{{Kind: 5, Hi: 2}, {Kind: 8, Lo: 1}}},
	} {
		for _, other := range [][]api.Span{nil, ok, proto.Spans(), x.l} {
			agrees(t, x.name, x.l, other, nil, api.ErrArg)
		}
		agrees(t, x.name+", and what does not touch", append([]api.Span{{Kind: 3, Hi: 1}}, x.l...), []api.Span{{Kind: 3, Lo: 2, Hi: 2}}, nil, api.ErrArg)
	}
	agrees(t, "what does not touch alone", ok, apart, nil, api.ErrVersion)
}

func TestP6_1AgreeOfAllShortLists(t *testing.T) {
	var spans []api.Span
	for _, kind := range []int{-1, 0, 1, 2, 255, 256} {
		for _, lo := range []int{-1, 0, 1, 2} {
			for _, hi := range []int{0, 1, 2} {
				spans = append(spans, api.Span{Kind: kind, Lo: lo, Hi: hi})
			}
		}
	}
	lists := [][]api.Span{nil}
	for i, s := range spans {
		lists = append(lists, []api.Span{s})
		for k, z := range spans {
			if (i+k)%5 == 0 {
				lists = append(lists, []api.Span{s, z})
			}
		}
	}
	counts := map[api.Errno]int{}
	for _, a := range lists {
		for _, b := range lists {
			want, e := wordsAgree(a, b)
			if got, f := proto.Agree(a, b); f != e || !slices.Equal(got, want) {
				t.Fatalf("Agree of %v and %v tells %v, error %d, want %v, error %d", a, b, got, f, want, e)
			}
			counts[e]++
		}
	}
	if counts[api.OK] < 1000 || counts[api.ErrVersion] < 500 || counts[api.ErrArg] < 1000 {
		t.Errorf("that looks at too little: %v", counts)
	}
}

func TestP6_1AgreeAtRandom(t *testing.T) {
	r := rand.New(rand.NewSource(61))
	list := func() []api.Span {
		var l []api.Span
		for k := r.Intn(4); k < 256; k += 1 + r.Intn(1<<r.Intn(9)) {
			lo := r.Intn(1 << r.Intn(9))
			l = append(l, api.Span{Kind: k, Lo: lo, Hi: lo + r.Intn(256-lo)})
		}
		return l
	}
	counts := map[api.Errno]int{}
	for range 3000 {
		a, b := list(), list()
		want, e := wordsAgree(a, b)
		agrees(t, "at random", a, b, want, e)
		counts[e]++
	}
	if counts[api.OK] < 100 || counts[api.ErrVersion] < 100 {
		t.Errorf("that looks at too little: %v", counts)
	}
}
