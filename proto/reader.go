package proto

import (
	"watermeet/api"
	"watermeet/octet"
)

// reader goes from field to field of bytes: where the next one stands, and the first error. Behind an error nothing is got any more, and each field is zero.
type reader struct {
	b  []byte
	at int
	e  api.Errno
}

// head is the kind and the version; both bytes have to be there ahead of either being looked at.
func (g *reader) head() (kind, ver int) {
	kind, ver = g.oneByte(), g.oneByte()
	if g.e == api.OK {
		g.e = checkHead(kind, ver)
	}
	if g.e != api.OK {
		return 0, 0
	}
	return kind, ver
}

func (g *reader) oneByte() int {
	if g.e != api.OK {
		return 0
	}
	n, e := octet.Get(g.b, g.at, 1)
	g.at, g.e = g.at+1, e
	return int(n)
}

func (g *reader) number() (n int) {
	if g.e == api.OK {
		n, g.at, g.e = octet.GetVar(g.b, g.at)
	}
	return n
}

func (g *reader) text(most int) (s string) {
	if g.e == api.OK {
		s, g.at, g.e = octet.GetText(g.b, g.at, most)
	}
	return s
}

// count is how many there are of something: ErrForm is told of fewer than least, and what is handed in of more than most.
func (g *reader) count(least, most int, above api.Errno) int {
	n := g.number()
	switch {
	case g.e != api.OK:
	case n < least:
		g.e = api.ErrForm
	case n > most:
		g.e = above
	default:
		return n
	}
	return 0
}

func (g *reader) numbers(many int) []int {
	var l []int
	for range many {
		l = append(l, g.number())
	}
	return l
}

func (g *reader) texts(many int) []string {
	var l []string
	for range many {
		l = append(l, g.text(api.MaxText))
	}
	return l
}

// end tells that bytes are left, if some are.
func (g *reader) end() {
	if g.e == api.OK && g.at < len(g.b) {
		g.e = api.ErrForm
	}
}
