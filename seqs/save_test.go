package seqs_test

import (
	"fmt"
	"math"
	"math/rand"
	"slices"
	"testing"

	"watermeet/api"
	"watermeet/seqs"
)

func TestP11_4SaveByHand(t *testing.T) {
	for i, x := range []struct {
		l    []api.Prod
		want []byte
	}{
		{nil, []byte{0}},
		{prods(prod(0, 0)), []byte{2, 0, 0, 0}},
		{prods(prod(1, 2)), []byte{2, 2, 4, 0}},
		{prods(prod(3, 1, 4, 5, 6)), []byte{2, 6, 2, 2, 8, 10, 12}},
		{prods(prod(3, 1, 4, 5, 6, 6, 6, 150), prod(63, 64)), []byte{4, 6, 2, 4, 8, 10, 12, 12, 12, 172, 2, 126, 128, 1, 0}},
		{prods(prod(top, topGen)), []byte{2, 128, 128, 128, 128, 128, 64, 128, 128, 128, 1, 0}},
	} {
		if got, e := saves(t, fmt.Sprint(i), x.l); e != api.OK || !slices.Equal(got, sealed(x.want)) {
			t.Errorf("%d: Save of %s tells %v, %d, want %v", i, brief(x.l), got, e, sealed(x.want))
		}
		if got, e := loads(t, fmt.Sprint(i), sealed(x.want)); e != api.OK || !same(got, x.l) {
			t.Errorf("%d: Load tells %s, %d, want %s", i, brief(got), e, brief(x.l))
		}
	}
	if got, e := saves(t, "none", nil); e != api.OK || !slices.Equal(got, []byte{0, 0xD2, 0x02, 0xEF, 0x8D}) {
		t.Errorf("none are %v, %d", got, e)
	}
}

func TestP11_4ThereAndBack(t *testing.T) {
	for _, x := range shapes() {
		b, e := saves(t, x.name, x.l)
		if e != api.OK {
			t.Errorf("%s: Save tells %d", x.name, e)
		}
		if got, e := loads(t, x.name, b); e != api.OK || !same(got, x.l) {
			t.Errorf("%s: Load tells %s, %d, want %s", x.name, brief(got), e, brief(x.l))
		}
	}
	r := rand.New(rand.NewSource(116))
	for range 5000 {
		l := anyProds(r)
		b, _ := saves(t, "any", l)
		if got, e := loads(t, "any", b); e != api.OK || !same(got, l) {
			t.Errorf("Load tells %s, %d, want %s", brief(got), e, brief(l))
		}
	}
}

func TestP11_4SaveOfWhatMayNotBe(t *testing.T) {
	for _, x := range odds() {
		if got, e := saves(t, x.name, x.l); e != api.ErrArg || len(got) != 0 {
			t.Errorf("%s: %v, %d", x.name, got, e)
		}
	}
	for _, x := range crowds() {
		if got, e := saves(t, x.name, x.l); e != api.ErrBound || len(got) != 0 {
			t.Errorf("%s: %d bytes, %d", x.name, len(got), e)
		}
	}
}

// The numbers of producers that may not be, rightly written and sealed.
func TestP11_4LoadOfWhatMayNotBe(t *testing.T) {
	for _, x := range slices.Concat(odds(), crowds()) {
		if got, e := loads(t, x.name, sealed(plain(numbersOf(x.l)...))); e != api.ErrForm || len(got) != 0 {
			t.Errorf("%s: %s, %d", x.name, brief(got), e)
		}
	}
}

// snapshots are producers' bytes without their sum.
func snapshots() map[string][]byte {
	x := map[string][]byte{}
	for _, y := range shapes() {
		if len(y.l) < 70 {
			x[y.name] = plain(numbersOf(y.l)...)
		}
	}
	return x
}

func TestP11_4LoadOfBytesThatAreCutOff(t *testing.T) {
	for name, b := range snapshots() {
		whole := sealed(b)
		for n := range whole {
			want := api.ErrSum
			if n < 4 {
				want = api.ErrShort
			}
			if got, e := loads(t, name, whole[:n]); e != want || len(got) != 0 {
				t.Errorf("%s, %d bytes: %s, %d", name, n, brief(got), e)
			}
		}
		// Cut off, and sealed anew.
		for n := range b {
			if got, e := loads(t, name, sealed(b[:n])); e != api.ErrForm || len(got) != 0 {
				t.Errorf("%s, %d bytes, sealed: %s, %d", name, n, brief(got), e)
			}
		}
	}
	for n := range 4 {
		if got, e := loads(t, "a few", make([]byte, n)); e != api.ErrShort || len(got) != 0 {
			t.Errorf("%d bytes: %s, %d", n, brief(got), e)
		}
	}
	if got, e := loads(t, "no bytes, sealed", sealed(nil)); e != api.ErrForm || len(got) != 0 {
		t.Errorf("no bytes, sealed: %s, %d", brief(got), e)
	}
}

func TestP11_4LoadOfBytesThatAreChanged(t *testing.T) {
	for name, b := range snapshots() {
		for at := range sealed(b) {
			for _, by := range []byte{1, 2, 128, 255} {
				whole := sealed(b)
				whole[at] ^= by
				if got, e := loads(t, name, whole); e != api.ErrSum || len(got) != 0 {
					t.Errorf("%s, changed at %d: %s, %d", name, at, brief(got), e)
				}
			}
		}
		// Changed, and sealed anew: what they say then, or nothing.
		for at := range b {
			for _, by := range []byte{1, 2, 4, 128, 255} {
				x := slices.Clone(b)
				x[at] ^= by
				loads(t, name, sealed(x))
			}
		}
	}
}

func TestP11_4LoadOfBytesBehind(t *testing.T) {
	for name, b := range snapshots() {
		if got, e := loads(t, name, append(sealed(b), 0)); e != api.ErrSum || len(got) != 0 {
			t.Errorf("%s, one more: %s, %d", name, brief(got), e)
		}
		for _, more := range [][]byte{{0}, {1}, {128}, {0, 0, 0}, {200, 1, 0, 0}} {
			if got, e := loads(t, name, sealed(slices.Concat(b, more))); e != api.ErrForm || len(got) != 0 {
				t.Errorf("%s, %v more, sealed: %s, %d", name, more, brief(got), e)
			}
		}
	}
}

func TestP11_4LoadOfWrongCounts(t *testing.T) {
	for _, many := range []int{math.MinInt, -most, -2, -1, 1, 2, 5, 6, most - 1, most, most + 1, 1 << 31, top, math.MaxInt - 1, math.MaxInt} {
		for i, l := range [][]int{{many}, {1, 3, 0, many}, {1, 3, 0, many, 0, 0, 0}, {many, 3, 0, 0, 4, 0, 0, 5, 0, 0}, {2, 3, 0, 1, 0, 0, 0, 4, 0, many, 0, 0, 0}} {
			got, e := loads(t, fmt.Sprint(i), sealed(plain(l...)))
			// Of these one tells as many as there are.
			if right := many == 1 && (i == 2 || i == 4); right != (e == api.OK) || !right && (e != api.ErrForm || len(got) != 0) {
				t.Errorf("%v: %s, %d", l, brief(got), e)
			}
		}
	}
	// More than there may be, and all of them there.
	for _, many := range []int{6, 7, 5000} {
		l := append([]int{1, 3, 0, many}, steps(0, many)...)
		if got, e := loads(t, "batches", sealed(plain(l...))); e != api.ErrForm || len(got) != 0 {
			t.Errorf("%d batches: %s, %d", many, brief(got), e)
		}
	}
	for _, many := range []int{most, most + 1, 3 * most} {
		want := api.ErrForm
		if many == most {
			want = api.OK
		}
		if got, e := loads(t, "producers", sealed(plain(numbersOf(steady(many, 0, 1))...))); e != want || (e == api.OK) != (len(got) == most) {
			t.Errorf("%d producers: %s, %d", many, brief(got), e)
		}
	}
}

// A number has one way to be written: others of the same numbers are refused.
func TestP11_4LoadOfAnotherWriting(t *testing.T) {
	for name, b := range snapshots() {
		for at, c := range b {
			if c >= 128 {
				continue
			}
			longer := slices.Concat(b[:at], []byte{c | 128, 0}, b[at+1:])
			if got, e := loads(t, name, sealed(longer)); e != api.ErrForm || len(got) != 0 {
				t.Errorf("%s, longer at %d: %s, %d", name, at, brief(got), e)
			}
		}
	}
	for i, b := range [][]byte{
		{128, 0}, {2, 128, 0, 0, 0}, {2, 2, 0, 128, 0}, {130, 0, 2, 0, 0}, {2, 2, 0, 2, 0, 0, 128, 128, 0},
		// A tenth byte above 1, and an eleventh one.
		{128, 128, 128, 128, 128, 128, 128, 128, 128, 2}, {128, 128, 128, 128, 128, 128, 128, 128, 128, 129, 0},
		// The sum of other numbers.
		{1}, {3, 2, 0, 0}, {2, 1, 0, 0}, {2, 0, 1, 0}, {2, 0, 0, 1}, {2, 0, 0, 2, 1, 0, 0}, {2, 0, 0, 2, 0, 1, 0}, {2, 0, 0, 2, 0, 0, 1},
	} {
		if got, e := loads(t, fmt.Sprint(i), sealed(b)); e != api.ErrForm || len(got) != 0 {
			t.Errorf("%d: %v: %s, %d", i, b, brief(got), e)
		}
	}
}

// All short texts of bytes that matter, sealed.
func TestP11_4LoadOfAllShort(t *testing.T) {
	told := map[api.Errno]int{}
	all := [][]byte{nil}
	for at := 0; at < len(all); at++ {
		_, e := loads(t, "short", sealed(all[at]))
		told[e]++
		if len(all[at]) < 7 {
			for _, c := range []byte{0, 1, 2, 4, 128} {
				all = append(all, append(slices.Clip(all[at]), c))
			}
		}
	}
	if told[api.OK] < 30 || told[api.ErrForm] < 10000 {
		t.Errorf("that looks at too little: %v", told)
	}
}

func TestP11_4LoadOfAny(t *testing.T) {
	r := rand.New(rand.NewSource(117))
	told := map[api.Errno]int{}
	for range 20000 {
		x := numbersOf(anyProds(r))
		switch at := r.Intn(len(x)); r.Intn(4) {
		case 0:
			x[at] += r.Intn(3) - 1
		case 1:
			x = slices.Delete(x, at, at+1)
		case 2:
			x = slices.Insert(x, at, r.Intn(3))
		}
		_, e := loads(t, "any", sealed(plain(x...)))
		told[e]++
	}
	if told[api.OK] < 3000 || told[api.ErrForm] < 3000 {
		t.Errorf("that looks at too little: %v", told)
	}
}

// Bytes that are told are new: who writes into them changes neither what was handed in nor what is told next.
func TestP11_4BytesThatAreToldAreNew(t *testing.T) {
	for _, x := range shapes() {
		l := roomy(x.l)
		was := room(l)
		a, _ := seqs.Save(l)
		b, _ := seqs.Save(l)
		wasB := slices.Clone(b)
		clear(a[:cap(a)])
		if !same(room(l), was) || !slices.Equal(b, wasB) {
			t.Errorf("%s: what is told changes with what was told ahead of it", x.name)
		}
		scribble(l)
		if !slices.Equal(b, wasB) {
			t.Errorf("%s: what is told changes with what was handed in", x.name)
		}
		got, _ := seqs.Load(b)
		clear(b[:cap(b)])
		if !same(got, x.l) {
			t.Errorf("%s: what is told changes with the bytes", x.name)
		}
	}
}

// The greatest snapshot that there is, and bytes that promise much, are gone over in about as many steps as they have numbers.
func TestP11_4Greatest(t *testing.T) {
	var l []api.Prod
	for i := range most {
		p := api.Prod{Pid: top - most + i, Gen: topGen}
		for k := range 5 {
			p.Did = append(p.Did, api.Did{Seq: topGen - 20 + k, Last: topGen - 20 + k, Base: top - k})
		}
		l = append(l, p)
	}
	for range 20 {
		b, e := seqs.Save(l)
		if e != api.OK {
			t.Fatalf("Save tells %d", e)
		}
		if got, e := seqs.Load(b); e != api.OK || !same(got, l) {
			t.Fatalf("Load tells %s, %d", brief(got), e)
		}
	}
	saves(t, "the greatest", l)
	zeros := make([]byte, 1<<22)
	if got, e := seqs.Load(sealed(append(plain(math.MaxInt), zeros...))); e != api.ErrForm || len(got) != 0 {
		t.Errorf("%s, %d", brief(got), e)
	}
}
