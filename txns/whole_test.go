package txns_test

import (
	"fmt"
	"math/rand"
	"testing"

	"watermeet/api"
	"watermeet/txns"
)

// story is a log, and what its writers know of it: for each batch which of the transactions it is of (-1: of none), and how each of these went.
type story struct {
	log   []api.Batch
	of    []int
	went  []int // api.Data, as long as it is open
	open  map[int]int
	end   int
	ended map[int]int
}

func begun() *story { return &story{open: map[int]int{}, ended: map[int]int{}} }

func (s *story) writes(b api.Batch, of int) {
	s.log, s.of, s.end = append(s.log, b), append(s.of, of), b.Last+1
}

// inTxn writes in the Pid's transaction, which may begin with that.
func (s *story) inTxn(pid, many int) {
	of, is := s.open[pid]
	if !is {
		of = len(s.went)
		s.open[pid], s.went = of, append(s.went, api.Data)
	}
	s.writes(data(s.end, many, pid), of)
}

// ends ends the Pid's transaction, if it has one: what ends none may stand in a log, too.
func (s *story) ends(pid, ctl int) {
	if of, is := s.open[pid]; is {
		s.went[of] = ctl
		delete(s.open, pid)
	}
	s.writes(ends(s.end, pid, s.ended[pid], ctl), -1)
	s.ended[pid]++
}

// goesOn is whatever may happen next.
func (s *story) goesOn(r *rand.Rand) {
	s.end += r.Intn(3) * r.Intn(2)
	pid, many := r.Intn(5), 1+r.Intn(4)
	switch r.Intn(9) {
	case 0:
		s.writes(nobodys(s.end, many), -1)
	case 1:
		s.writes(sent(s.end, many, pid), -1)
	case 2:
		s.ends(pid, api.Commit)
	case 3:
		s.ends(pid, api.Abort)
	case 4:
		s.inTxn(pid, many)
		s.log[len(s.log)-1].Recs = nil
	default:
		s.inTxn(pid, many)
	}
}

// committed is what is committed, as the writers know it, and stands below to; it fails, if something there is open.
func (s *story) committed(t *testing.T, name string, to int) []api.Batch {
	t.Helper()
	var x []api.Batch
	for i, b := range s.log {
		if b.Last >= to || b.Ctl != api.Data {
			continue
		}
		of := s.of[i]
		if of >= 0 && s.went[of] == api.Data {
			t.Errorf("%s: %s is below %d, and open", name, briefly(b), to)
		}
		if of < 0 || s.went[of] == api.Commit {
			x = append(x, b)
		}
	}
	return x
}

// whole fails, unless of each transaction all that stands below to is told, or nothing.
func (s *story) whole(t *testing.T, name string, told []api.Batch, to int) {
	t.Helper()
	bases := map[int]bool{}
	for _, b := range told {
		bases[b.Base] = true
	}
	shown, there := map[int]int{}, map[int]int{}
	for i, b := range s.log {
		if of := s.of[i]; of >= 0 && b.Last < to {
			there[of]++
			if bases[b.Base] {
				shown[of]++
			}
		}
	}
	for of, n := range shown {
		if n != there[of] {
			t.Errorf("%s: of a transaction %d are shown, and %d are there", name, n, there[of])
		}
	}
}

// Below what is stable just what was committed is shown, whole or not at all, and nothing that was shown is taken back as the log goes on.
func TestP12_6JustWhatWasCommitted(t *testing.T) {
	shown, hidden, held := 0, 0, 0
	for seed := range 300 {
		r := rand.New(rand.NewSource(int64(seed)))
		s, u := begun(), api.Tx{}
		var before []api.Batch
		high, stable := 0, 0
		for i := range 80 {
			name := fmt.Sprintf("seed %d, %d", seed, i)
			s.goesOn(r)
			var e api.Errno
			if u, e = txns.Put(u, s.log[len(s.log)-1]); e != api.OK {
				t.Fatalf("%s: Put tells %d", name, e)
			}
			if !same(txns.Of(s.log), u) {
				t.Errorf("%s: Of tells %s, Put %s", name, brief(txns.Of(s.log)), brief(u))
			}
			high += r.Intn(s.end - high + 1)
			to := txns.Stable(u, high)
			got := txns.Show(s.log, u.Gone, to)
			if want := s.committed(t, name, to); !sameBatches(got, want) {
				t.Errorf("%s: below %d %s is shown, want %s", name, to, briefly(got...), briefly(want...))
			}
			s.whole(t, name, got, to)
			if to < stable || !sameBatches(got[:min(len(got), len(before))], before) {
				t.Errorf("%s: below %d %s is shown, behind %s below %d", name, to, briefly(got...), briefly(before...), stable)
			}
			s.readsOn(t, name, r, u, to)
			before, stable = got, to
			shown += len(got)
			hidden += len(u.Gone)
			held += high - to
		}
	}
	if shown < 10000 || hidden < 10000 || held < 10000 {
		t.Errorf("that looks at too little: %d shown, %d hidden, %d held back", shown, hidden, held)
	}
}

// readsOn fails, unless who begins somewhere is shown the same from there on, also by what is hidden there alone, and by what is left of the transactions when what is ahead of it was taken off.
func (s *story) readsOn(t *testing.T, name string, r *rand.Rand, u api.Tx, to int) {
	t.Helper()
	at := r.Intn(len(s.log))
	from := s.log[at].Base
	want := txns.Show(s.log[at:], u.Gone, to)
	if got := txns.Show(s.log[at:], txns.Hidden(u, from, to), to); !sameBatches(got, want) {
		t.Errorf("%s: from %d below %d by what is hidden there %s is shown, want %s", name, from, to, briefly(got...), briefly(want...))
	}
	left := txns.Trim(u, from)
	if got := txns.Show(s.log[at:], left.Gone, to); !sameBatches(got, want) {
		t.Errorf("%s: from %d below %d by what is left %s is shown, want %s", name, from, to, briefly(got...), briefly(want...))
	}
	if got := txns.Stable(left, to); got != to {
		t.Errorf("%s: with what is left from %d on all below %d is stable, want %d", name, from, got, to)
	}
}

// Behind the end of all transactions all that was committed is shown, and nothing else.
func TestP12_6InTheEnd(t *testing.T) {
	for seed := range 200 {
		r := rand.New(rand.NewSource(int64(seed)))
		s, name := begun(), fmt.Sprint("seed ", seed)
		for range 60 {
			s.goesOn(r)
		}
		for pid := range 5 {
			s.ends(pid, api.Commit+r.Intn(2))
		}
		u := txns.Of(s.log)
		if len(u.Open) != 0 || txns.Stable(u, s.end) != s.end {
			t.Errorf("%s: in the end there is %s", name, brief(u))
		}
		var want []api.Batch
		for i, b := range s.log {
			if of := s.of[i]; b.Ctl == api.Data && (of < 0 || s.went[of] == api.Commit) {
				want = append(want, b)
			}
		}
		if got := txns.Show(s.log, txns.Hidden(u, 0, s.end), s.end); !sameBatches(got, want) {
			t.Errorf("%s: %s is shown, want %s", name, briefly(got...), briefly(want...))
		}
		ended := map[int]int{}
		for _, went := range s.went {
			ended[went]++
		}
		if len(u.Done) != ended[api.Commit] || len(u.Gone) != ended[api.Abort] {
			t.Errorf("%s: %d were committed, %d aborted, want %v", name, len(u.Done), len(u.Gone), ended)
		}
	}
}
