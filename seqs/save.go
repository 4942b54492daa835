package seqs

import (
	"watermeet/api"
	"watermeet/crc"
	"watermeet/octet"
)

func Save(l []api.Prod) ([]byte, api.Errno) {
	if e := Check(l); e != api.OK {
		return nil, e
	}
	b := putNumbers(nil, len(l))
	for _, p := range l {
		b = putNumbers(b, p.Pid, p.Gen, len(p.Did))
		for _, d := range p.Did {
			w := wroteOf(d)
			b = putNumbers(b, w[:]...)
		}
	}
	return crc.Seal(b), api.OK
}

func Load(b []byte) ([]api.Prod, api.Errno) {
	body, e := crc.Open(b)
	if e != api.OK {
		return nil, e
	}
	return read(body)
}

// putNumbers has each number's bytes made alone: octet.PutVar copies all that it puts a number behind.
func putNumbers(b []byte, l ...int) []byte {
	for _, n := range l {
		b = append(b, octet.PutVar(nil, n)...)
	}
	return b
}

// read is the producers whose numbers these bytes are, and nothing but these. A number has one way to be written: no others have the same bytes.
func read(b []byte) (l []api.Prod, e api.Errno) {
	defer func() {
		if recover() != nil {
			l, e = nil, api.ErrForm
		}
	}()
	r := reader{b: b}
	l = prods(r.number)
	if r.at < len(b) || Check(l) != api.OK {
		return nil, api.ErrForm
	}
	return l, api.OK
}

func prods(number func() int) []api.Prod {
	var l []api.Prod
	for range howMany(number, mostProds) {
		p := api.Prod{Pid: number(), Gen: number()}
		for range howMany(number, mostDid) {
			var w wrote
			for i := range w {
				w[i] = number()
			}
			p.Did = append(p.Did, w.did())
		}
		l = append(l, p)
	}
	return l
}

// howMany gives up where that may not be, ahead of anything that is read because of it.
func howMany(number func() int, most int) int {
	n := number()
	if !isWithin(n, 0, most) {
		panic(api.ErrForm)
	}
	return n
}

// reader gets numbers out of bytes, one behind the other.
type reader struct {
	b  []byte
	at int
}

// number gives up where there is none, so that nobody who reads on needs to ask after each of them.
func (r *reader) number() int {
	n, next, e := octet.GetVar(r.b, r.at)
	if e != api.OK {
		panic(e)
	}
	r.at = next
	return n
}
